package store

import (
	"fmt"
	"math"
	"slices"
	"testing"

	"rickyard/api"
)

const (
	least = math.MinInt64
	most  = math.MaxInt64
)

// words, takes and per are the words of a stack, the pages of a span and its stacks, for each class, by the table of chapter 8.
var (
	words = [8]int{32, 64, 128, 256, 512, 1024, 2048, 4096}
	takes = [8]int{8, 8, 8, 8, 8, 16, 32, 64}
	per   = [8]int{16, 8, 4, 2, 1, 1, 1, 1}
)

// class looks up the class of a number of words, and is -1 if there is none.
func class(n int) int {
	for c, w := range words {
		if n >= 1 && n <= w {
			return c
		}
	}
	return -1
}

// Whose a unit is, in the order of the lists of api.Parts.
const (
	vacant = iota
	pooled
	listed
	queued
	used
)

// unit is a unit of the arena: whose it is, where its piece begins, its class, and the first page of its span.
type unit struct{ who, first, class, span int }

// picture is the plain picture of a store: its units, the chain of each span that is cut into stacks, and the phase.
type picture struct {
	units  []unit
	chains [][]int
	on     bool
}

// drawn returns the picture of a store of that many pages in which nothing is allocated.
func drawn(pages int) *picture {
	p := &picture{units: make([]unit, 2*pages), chains: make([][]int, pages)}
	p.wipe(0, 64*pages)
	return p
}

// paint gives the units of n words from an address on to u.
func (p *picture) paint(at, n int, u unit) {
	for i := at / 32; i < (at+n)/32; i++ {
		p.units[i] = u
	}
}

// wipe makes n words from an address on part of a free run.
func (p *picture) wipe(at, n int) {
	p.paint(at, n, unit{who: vacant, first: -1, class: -1, span: -1})
}

// room returns the first page from which on n pages are free.
func (p *picture) room(n int) (int, bool) {
	count := 0
	for i, u := range p.units {
		if u.who != vacant {
			count = 0
			continue
		}
		// Spans begin and end with pages, so that two free units are one free page.
		count++
		if count == 2*n {
			return (i+1)/2 - n, true
		}
	}
	return 0, false
}

// waiting returns the stack of a class that is there to be taken: that of the lowest span which has one, or the lowest large one.
func (p *picture) waiting(c int) (int, bool) {
	for page, chain := range p.chains {
		if len(chain) > 0 && p.units[2*page].class == c {
			return chain[0], true
		}
	}
	for _, u := range p.units {
		if u.who == listed && u.class == c {
			return u.first, true
		}
	}
	return 0, false
}

// cut makes the pages of a span from a page on stacks of a class that wait to be taken.
func (p *picture) cut(page, c int) {
	for i := range per[c] {
		u := unit{who: pooled, first: 64*page + i*words[c], class: c, span: page}
		if c > 3 {
			u.who = listed
		} else {
			p.chains[page] = append(p.chains[page], u.first)
		}
		p.paint(u.first, words[c], u)
	}
}

// alloc is Alloc by the words of the chapter.
func (p *picture) alloc(n int) (int, api.Errno) {
	c := class(n)
	if c < 0 {
		return 0, api.ErrArg
	}
	if _, ok := p.waiting(c); !ok {
		page, ok := p.room(takes[c])
		if !ok {
			return 0, api.ErrFull
		}
		p.cut(page, c)
	}
	at, _ := p.waiting(c)
	u := p.units[at/32]
	if c <= 3 {
		p.chains[u.span] = slices.Clone(p.chains[u.span][1:])
	}
	u.who = used
	p.paint(at, words[c], u)
	return at, api.OK
}

// free is Free by the words of the chapter.
func (p *picture) free(at int) api.Errno {
	if !p.lives(at) {
		return api.ErrNone
	}
	u := p.units[at/32]
	switch {
	case u.class > 3 && p.on:
		u.who = listed
		p.paint(at, words[u.class], u)
	case u.class > 3:
		p.wipe(at, words[u.class])
	default:
		u.who = pooled
		p.paint(at, words[u.class], u)
		p.chains[u.span] = slices.Insert(p.chains[u.span], 0, at)
		p.gone(u)
	}
	return api.OK
}

// gone takes the span of a unit from the stacks of its class if all of them are free.
func (p *picture) gone(u unit) {
	if len(p.chains[u.span]) < per[u.class] {
		return
	}
	p.chains[u.span] = nil
	p.wipe(64*u.span, 512)
	if p.on {
		p.paint(64*u.span, 512, unit{who: queued, first: 64 * u.span, class: u.class, span: u.span})
	}
}

// gc is GC by the words of the chapter.
func (p *picture) gc(on bool) {
	p.on = on
	for i, u := range p.units {
		if !on && (u.who == listed || u.who == queued) {
			p.wipe(32*i, 32)
		}
	}
}

// lives reports whether a live stack begins at an address.
func (p *picture) lives(at int) bool {
	if at < 0 || at >= 32*len(p.units) || at%32 != 0 {
		return false
	}
	u := p.units[at/32]
	return u.who == used && u.first == at
}

// live reads the live stacks off the picture, unit by unit.
func (p *picture) live() []api.Live {
	l := []api.Live{}
	for i, u := range p.units {
		if u.who == used && u.first == 32*i {
			l = append(l, api.Live{At: 32 * i, Class: u.class, Owner: -1})
		}
	}
	return l
}

// parts reads the pieces off the picture, unit by unit.
func (p *picture) parts() api.Parts {
	lists := [5][]api.Piece{}
	for i, u := range p.units {
		l := lists[u.who]
		if i > 0 && p.units[i-1].who == u.who && p.units[i-1].first == u.first {
			l[len(l)-1].Words += 32
			continue
		}
		lists[u.who] = append(l, api.Piece{At: 32 * i, Words: 32})
	}
	return api.Parts{Runs: lists[vacant], Pool: lists[pooled], Large: lists[listed], Late: lists[queued], Live: lists[used]}
}

// lists are the lists of pieces, in the order of api.Parts.
func lists(p api.Parts) [7][]api.Piece {
	return [7][]api.Piece{p.Runs, p.Pool, p.Cache, p.Large, p.Late, p.Live, p.Hand}
}

// same reports whether two Parts are alike; a nil list and an empty list are the same.
func same(a, b api.Parts) bool {
	for i, l := range lists(a) {
		if !slices.Equal(l, lists(b)[i]) {
			return false
		}
	}
	return true
}

// pair is a store and the picture of it.
type pair struct {
	*testing.T
	s    *Store
	draw *picture
}

// made returns a store of that many pages, with its picture.
func made(t *testing.T, pages int) *pair {
	t.Helper()
	s := New(pages)
	if s == nil {
		t.Fatalf("14.1: New(%d) is nil", pages)
	}
	p := &pair{t, s, drawn(pages)}
	p.hold(fmt.Sprintf("New(%d)", pages))
	return p
}

// hold holds all that a store tells against the picture; what says which call comes before.
func (p *pair) hold(what string) {
	p.Helper()
	if got, want := p.s.Live(), p.draw.live(); !slices.Equal(got, want) {
		p.Fatalf("14.4, R5: %s: Live is %v, not %v", what, got, want)
	}
	got, want := p.s.Parts(), p.draw.parts()
	if !same(got, want) {
		p.Fatalf("14.5, R5: %s: Parts is %v, not %v", what, got, want)
	}
	if p.s.On() != p.draw.on {
		p.Fatalf("14.4, R5: %s: On is %t", what, !p.draw.on)
	}
	p.tiled(what, got)
	if !p.draw.on && len(got.Live) == 0 && !slices.Equal(got.Runs, []api.Piece{{At: 0, Words: 32 * len(p.draw.units)}}) {
		p.Fatalf("14.6, T4: %s: nothing is live, the phase is off, and the heap is %v", what, got.Runs)
	}
}

// tiled holds that each word of the arena is in just one piece.
func (p *pair) tiled(what string, parts api.Parts) {
	p.Helper()
	all := []api.Piece{}
	for i, l := range lists(parts) {
		if !slices.IsSortedFunc(l, func(a, b api.Piece) int { return a.At - b.At }) {
			p.Fatalf("14.5: %s: the list %d of Parts does not ascend: %v", what, i+1, l)
		}
		all = append(all, l...)
	}
	slices.SortFunc(all, func(a, b api.Piece) int { return a.At - b.At })
	end := 0
	for _, x := range all {
		if x.At != end || x.Words < 1 {
			p.Fatalf("14.5, T4: %s: %v comes behind the words up to %d", what, x, end)
		}
		end += x.Words
	}
	if end != 32*len(p.draw.units) {
		p.Fatalf("14.5, T4: %s: the pieces end with %d of %d words", what, end, 32*len(p.draw.units))
	}
}

// alloc calls Alloc on a store and on its picture, and returns what both return.
func (p *pair) alloc(n int) (int, api.Errno) {
	p.Helper()
	want, code := p.draw.alloc(n)
	if at, e := p.s.Alloc(n); at != want || e != code {
		p.Fatalf("14.2, R2, R3: Alloc(%d) is %d, %d, not %d, %d, in %v", n, at, e, want, code, p.s.Parts())
	}
	p.hold(fmt.Sprintf("Alloc(%d)", n))
	return want, code
}

// free calls Free on a store and on its picture, and returns what both return.
func (p *pair) free(at int) api.Errno {
	p.Helper()
	want := p.draw.free(at)
	if e := p.s.Free(at); e != want {
		p.Fatalf("14.3: Free(%d) is %d, not %d", at, e, want)
	}
	p.hold(fmt.Sprintf("Free(%d)", at))
	return want
}

// gc calls GC on a store and on its picture.
func (p *pair) gc(on bool) {
	p.Helper()
	p.draw.gc(on)
	p.s.GC(on)
	p.hold(fmt.Sprintf("GC(%t)", on))
}

// mustAlloc allocates stacks that there is room for, and returns their addresses.
func (p *pair) mustAlloc(sizes ...int) []int {
	p.Helper()
	list := []int{}
	for _, n := range sizes {
		at, e := p.alloc(n)
		if e != api.OK {
			p.Fatalf("14.2: Alloc(%d) is %d", n, e)
		}
		list = append(list, at)
	}
	return list
}

// mustFree frees stacks that are live.
func (p *pair) mustFree(list ...int) {
	p.Helper()
	for _, at := range list {
		if e := p.free(at); e != api.OK {
			p.Fatalf("14.3: Free(%d) is %d", at, e)
		}
	}
}

// refuses allocates n words, which must be refused with that code.
func (p *pair) refuses(n int, code api.Errno) {
	p.Helper()
	if at, e := p.alloc(n); at != 0 || e != code {
		p.Fatalf("14.2, R3: Alloc(%d) is %d, %d, not 0, %d", n, at, e, code)
	}
}

// none frees at addresses at which no live stack begins.
func (p *pair) none(list ...int) {
	p.Helper()
	for _, at := range list {
		if e := p.free(at); e != api.ErrNone {
			p.Fatalf("14.3: Free(%d) is %d, not 2", at, e)
		}
	}
}

// full allocates words of a class for each stack of n spans.
func full(c, n int) []int {
	return slices.Repeat([]int{words[c]}, n*per[c])
}

// wrong are numbers of words that no class has.
func wrong() []int {
	return []int{
		least, least + 1, least + 32, -1 << 62, -1 << 32, -1<<32 + 32, -4097, -4096, -512, -32, -1, 0,
		4097, 4098, 8192, 16384, 1 << 31, 1 << 32, 1<<32 + 1, 1<<32 + 32, 1 << 62, most - 31, most - 1, most,
	}
}

// far are addresses that are not those of an arena of n words.
func far(n int) []int {
	return []int{
		least, least + 1, least + 32, least + 512, -1 << 62, -1 << 32, -1<<32 + 512, -n, -4096, -512, -64, -33, -32, -31, -1,
		n, n + 1, n + 32, n + 512, 2 * n, 16384, 1 << 31, 1 << 32, 1<<32 + 32, 1<<32 + 512, 1 << 62, most - 511, most - 31, most - 1, most,
	}
}

func TestExamples(t *testing.T) {
	s := New(8)
	if l := s.Live(); len(l) != 0 {
		t.Errorf("14.1, 14.4: a new store has the live stacks %v", l)
	}
	if s.On() {
		t.Error("14.4: a new store has the phase on")
	}
	if p := s.Parts(); !same(p, api.Parts{Runs: []api.Piece{{At: 0, Words: 512}}}) {
		t.Errorf("14.5: Parts of New(8) is %v", p)
	}
	if at, e := s.Alloc(40); at != 0 || e != api.OK {
		t.Errorf("14.2: Alloc(40) is %d, %d", at, e)
	}
	if at, e := s.Alloc(512); at != 0 || e != api.ErrFull {
		t.Errorf("14.2: Alloc(512) is %d, %d", at, e)
	}
	if e := s.Free(0); e != api.OK {
		t.Errorf("14.3: Free(0) is %d", e)
	}
	if e := s.Free(0); e != api.ErrNone {
		t.Errorf("14.3: the second Free(0) is %d", e)
	}
	s.GC(true)
	if !s.On() {
		t.Error("14.4: after GC(true) On is false")
	}
}

func TestNew(t *testing.T) {
	for _, n := range []int{1, 2, 7, 8, 9, 16, 63, 64, 128, 255, 256} {
		p := made(t, n)
		if got := p.s.Parts(); !same(got, api.Parts{Runs: []api.Piece{{At: 0, Words: 64 * n}}}) {
			t.Errorf("14.1: Parts of New(%d) is %v", n, got)
		}
		if p.s.On() || len(p.s.Live()) != 0 {
			t.Errorf("14.1: New(%d) has the phase %t and the live stacks %v", n, p.s.On(), p.s.Live())
		}
		p.none(far(64 * n)...)
		p.none(0, 32, 64*n-32)
	}
	for _, n := range []int{least, least + 1, least + 8, -1 << 32, -1<<32 + 8, -257, -256, -8, -1, 0, 257, 258, 512, 16384, 1 << 31, 1 << 32, 1<<32 + 8, most - 1, most} {
		if New(n) != nil {
			t.Errorf("14.1: New(%d) is not nil", n)
		}
	}
}

func TestAllocOfNoClass(t *testing.T) {
	for _, pages := range []int{1, 8, 256} {
		p := made(t, pages)
		for _, n := range wrong() {
			p.refuses(n, api.ErrArg)
		}
	}
	// In a store without room, too, ErrArg comes first.
	p := made(t, 8)
	p.mustAlloc(512)
	for _, n := range wrong() {
		p.refuses(n, api.ErrArg)
	}
}

func TestAllocAtTheEdges(t *testing.T) {
	low := 1
	for c, w := range words {
		for _, n := range []int{low, low + 1, w - 1, w} {
			p := made(t, 256)
			p.mustAlloc(n)
			if l := p.s.Live(); !slices.Equal(l, []api.Live{{At: 0, Class: c, Owner: -1}}) {
				t.Errorf("14.2: after Alloc(%d) the live stacks are %v", n, l)
			}
		}
		low = w + 1
	}
}

func TestAllocOfEachNumber(t *testing.T) {
	for n := 1; n <= 4096; n++ {
		s := New(64)
		at, e := s.Alloc(n)
		if l := s.Live(); at != 0 || e != api.OK || len(l) != 1 || l[0].Class != class(n) {
			t.Fatalf("14.2: Alloc(%d) is %d, %d, and Live %v", n, at, e, l)
		}
	}
}

func TestAllocFillsSpans(t *testing.T) {
	for c := range 4 {
		p := made(t, 24)
		for i, at := range p.mustAlloc(full(c, 3)...) {
			if at != i*words[c] {
				t.Errorf("14.2: Alloc number %d of class %d is %d", i+1, c, at)
			}
		}
		p.refuses(words[c], api.ErrFull)
		p.refuses(1, api.ErrFull)
		p.refuses(4096, api.ErrFull)
	}
}

func TestAllocFillsTheArena(t *testing.T) {
	for c := range 8 {
		p := made(t, 256)
		n := 16384 / words[c]
		for i := range n {
			want := i * words[c]
			p.draw.alloc(words[c])
			if at, e := p.s.Alloc(words[c]); at != want || e != api.OK {
				t.Fatalf("14.2: Alloc number %d of class %d is %d, %d, not %d", i+1, c, at, e, want)
			}
		}
		p.hold("Alloc of all words")
		for _, w := range words {
			p.refuses(w, api.ErrFull)
		}
		p.mustFree(16384-words[c], 0)
	}
}

func TestAllocFromTheLowestSpan(t *testing.T) {
	for c := range 4 {
		p := made(t, 40)
		list := p.mustAlloc(full(c, 3)...)
		// One stack of each span, from the highest one down: the lowest is taken first.
		back := []int{list[2*per[c]], list[per[c]], list[0]}
		p.mustFree(back...)
		slices.Reverse(back)
		if got := p.mustAlloc(full(c, 1)[0], words[c], words[c]); !slices.Equal(got, back) {
			t.Errorf("14.2: Alloc of class %d goes by %v, not %v", c, got, back)
		}
		if got := p.mustAlloc(words[c]); got[0] != 24*64 {
			t.Errorf("14.2: from a new span of class %d Alloc is %v", c, got)
		}
	}
}

func TestAllocOfWhatWasPutBackLast(t *testing.T) {
	for c := range 3 {
		p := made(t, 8)
		list := p.mustAlloc(full(c, 1)...)
		for _, order := range [][]int{{0, 1, 2}, {2, 0, 1}, {per[c] - 1, 1, 0}, {1, per[c] - 1}} {
			want := []int{}
			for _, i := range order {
				p.mustFree(list[i])
				want = slices.Insert(want, 0, list[i])
			}
			if got := p.mustAlloc(full(c, 1)[:len(order)]...); !slices.Equal(got, want) {
				t.Errorf("14.2: Alloc of class %d goes by %v, not %v", c, got, want)
			}
		}
	}
}

func TestAllocOfSmallWithoutARun(t *testing.T) {
	for c := range 4 {
		// 7 pages are free; what the pools of other classes have does not help.
		p := made(t, 15)
		p.mustAlloc(words[(c+1)%4])
		for range 2 {
			p.refuses(words[c], api.ErrFull)
		}
		// While the pool has a free stack, no run is needed.
		q := made(t, 8)
		q.mustAlloc(full(c, 1)...)
		q.refuses(words[c], api.ErrFull)
		q.mustFree(512 - words[c])
		q.mustAlloc(words[c])
		q.refuses(words[c], api.ErrFull)
	}
}

func TestAllocOfSmallBetweenSpans(t *testing.T) {
	for c := range 4 {
		// Spans of 8 pages, of which every other one is freed: each is a run of its own.
		p := made(t, 40)
		list := p.mustAlloc(512, 512, 512, 512, 512)
		p.mustFree(list[1], list[3])
		got := p.mustAlloc(full(c, 2)...)
		if got[0] != 512 || got[per[c]] != 1536 {
			t.Errorf("14.2: Alloc of class %d goes by %v", c, got)
		}
		p.refuses(words[c], api.ErrFull)
	}
}

func TestAllocWithoutALongRun(t *testing.T) {
	for c := 5; c < 8; c++ {
		// Every other span is free: half of the pages, but no run is longer than 8 of them.
		p := made(t, 256)
		list := p.mustAlloc(full(4, 32)...)
		for i, at := range list {
			if i%2 == 0 {
				p.mustFree(at)
			}
		}
		for range 2 {
			p.refuses(words[c], api.ErrFull)
		}
		p.mustAlloc(512)
		// What makes a run long enough is found, wherever it lies.
		run := takes[c] / 8
		for i := 256/8 - run; i < 256/8; i++ {
			p.free(list[i])
		}
		if got := p.mustAlloc(words[c]); got[0] != 64*(256-takes[c]) {
			t.Errorf("14.2: Alloc of class %d is %v", c, got)
		}
	}
}

func TestAllocInStoresWithoutASpan(t *testing.T) {
	for pages := 1; pages < 8; pages++ {
		p := made(t, pages)
		for _, on := range []bool{false, true, false} {
			p.gc(on)
			for _, w := range words {
				p.refuses(w, api.ErrFull)
				p.refuses(w-1, api.ErrFull)
			}
			p.refuses(0, api.ErrArg)
			p.refuses(4097, api.ErrArg)
			p.none(0, 32, 64)
		}
	}
}

func TestAllocOfLargeAtTheEdges(t *testing.T) {
	for c := 4; c < 8; c++ {
		made(t, takes[c]-1).refuses(words[c], api.ErrFull)
		p := made(t, takes[c])
		p.mustAlloc(words[c])
		p.refuses(words[c], api.ErrFull)
		p.refuses(1, api.ErrFull)
		p.mustFree(0)
		p.mustAlloc(words[c-1] + 1)
	}
}

func TestAllocOfTheFirstOfTheList(t *testing.T) {
	for c := 4; c < 8; c++ {
		for _, order := range [][]int{{0, 1, 2}, {0, 2, 1}, {1, 0, 2}, {1, 2, 0}, {2, 0, 1}, {2, 1, 0}} {
			p := made(t, 256)
			list := p.mustAlloc(words[c], words[c], words[c])
			p.gc(true)
			for _, i := range order {
				p.mustFree(list[i])
			}
			if got := p.mustAlloc(words[c], words[c], words[c]); !slices.Equal(got, list) {
				t.Errorf("14.2: after Free by %v, Alloc of class %d goes by %v", order, c, got)
			}
			// The list has none any more, so the next one is from the heap.
			if at, e := p.alloc(words[c]); e == api.OK && at != 3*words[c] {
				t.Errorf("14.2: Alloc of class %d from the heap is %d", c, at)
			}
		}
	}
}

func TestAllocOfAnotherClassThanTheList(t *testing.T) {
	for c := 4; c < 8; c++ {
		for other := range 8 {
			if other == c {
				continue
			}
			p := made(t, takes[c])
			p.mustAlloc(words[c])
			p.gc(true)
			p.mustFree(0)
			// All pages are of the one stack in the list, and only its class is served.
			p.refuses(words[other], api.ErrFull)
			p.mustAlloc(words[c])
			p.mustFree(0)
			p.gc(false)
			p.alloc(words[other])
		}
	}
}

func TestAllocDoesNotTakeWhatIsKeptBack(t *testing.T) {
	for c := range 4 {
		p := made(t, 8)
		p.gc(true)
		p.mustFree(p.mustAlloc(words[c])...)
		for _, w := range words {
			p.refuses(w, api.ErrFull)
		}
		p.gc(false)
		p.mustAlloc(words[c])
	}
}

func TestFreeOfEachClass(t *testing.T) {
	for c := range 8 {
		for _, on := range []bool{false, true} {
			p := made(t, 256)
			list := p.mustAlloc(1, words[c], words[c], 512, words[c])
			p.gc(on)
			for _, at := range []int{list[2], list[1], list[4]} {
				p.mustFree(at)
				p.none(at)
			}
			p.mustFree(list[0], list[3])
			p.none(list...)
			p.gc(false)
		}
	}
}

func TestFreeWhereNoStackBegins(t *testing.T) {
	for c := range 8 {
		for _, on := range []bool{false, true} {
			p := made(t, 128)
			p.gc(on)
			list := p.mustAlloc(words[c], words[c])
			for at := -70; at < 64*128+70; at++ {
				if slices.Contains(list, at) {
					continue
				}
				if e := p.s.Free(at); e != api.ErrNone {
					t.Fatalf("14.3: Free(%d) with stacks of class %d at %v is %d", at, c, list, e)
				}
			}
			p.hold("Free where no stack begins")
			p.none(far(64 * 128)...)
			p.mustFree(list...)
		}
	}
}

func TestFreeOfWhatIsNotLive(t *testing.T) {
	p := made(t, 64)
	list := p.mustAlloc(200, 200, 512, 1024, 60, 60)
	p.gc(true)
	p.mustFree(list[:5]...)
	// One span is kept back, two large stacks are in the list, stacks of class 1 are free in their pool, and the rest is a free run.
	want := api.Parts{
		Runs:  []api.Piece{{At: 2560, Words: 1536}},
		Pool:  []api.Piece{{At: 2048, Words: 64}, {At: 2176, Words: 64}, {At: 2240, Words: 64}, {At: 2304, Words: 64}, {At: 2368, Words: 64}, {At: 2432, Words: 64}, {At: 2496, Words: 64}},
		Large: []api.Piece{{At: 512, Words: 512}, {At: 1024, Words: 1024}},
		Late:  []api.Piece{{At: 0, Words: 512}},
		Live:  []api.Piece{{At: 2112, Words: 64}},
	}
	if got := p.s.Parts(); !same(got, want) {
		t.Fatalf("14.5: Parts is %v, not %v", got, want)
	}
	for at := 0; at < 4096; at += 32 {
		if at != 2112 {
			p.none(at)
		}
	}
	p.none(2113, 2111, 2112+16, 2112+63)
	p.mustFree(2112)
}

func TestFreeOfTheLastStackOfASpan(t *testing.T) {
	for c := range 4 {
		for last := range per[c] {
			for _, on := range []bool{false, true} {
				p := made(t, 24)
				list := p.mustAlloc(slices.Concat([]int{512}, full(c, 1), []int{512})...)
				p.gc(on)
				for i := range per[c] {
					// Each stack is the last one once.
					p.mustFree(list[1+(last+1+i)%per[c]])
				}
				want := api.Parts{Live: []api.Piece{{At: 0, Words: 512}, {At: 1024, Words: 512}}}
				if on {
					want.Late = []api.Piece{{At: 512, Words: 512}}
				} else {
					want.Runs = []api.Piece{{At: 512, Words: 512}}
				}
				if got := p.s.Parts(); !same(got, want) {
					t.Fatalf("14.3: when a span of class %d is free, Parts is %v, not %v", c, got, want)
				}
				p.none(list[1 : 1+per[c]]...)
			}
		}
	}
}

// orders are all orders of the numbers below n.
func orders(n int) [][]int {
	if n == 0 {
		return [][]int{nil}
	}
	all := [][]int{}
	for _, order := range orders(n - 1) {
		for i := 0; i < n; i++ {
			all = append(all, slices.Insert(slices.Clone(order), i, n-1))
		}
	}
	return all
}

func TestFreeInAnyOrder(t *testing.T) {
	for _, sizes := range [][]int{{128, 128, 128, 128}, {256, 256, 256, 256}, {256, 128, 512, 1024, 256}, {512, 32, 512, 32, 2048}, {1024, 512, 1024, 512}} {
		for _, order := range orders(len(sizes)) {
			for _, on := range []bool{false, true} {
				p := made(t, 80)
				list := p.mustAlloc(sizes...)
				p.gc(on)
				for _, i := range order {
					p.mustFree(list[i])
				}
				p.gc(false)
			}
		}
	}
}

func TestFreeWithPhasesBetween(t *testing.T) {
	sizes := []int{256, 512, 256, 1024}
	for _, order := range orders(4) {
		// The bits of turns say where the phase changes.
		for turns := range 32 {
			p := made(t, 40)
			list := p.mustAlloc(sizes...)
			on := false
			for i, k := range order {
				if turns>>i&1 == 1 {
					on = !on
					p.gc(on)
				}
				p.mustFree(list[k])
			}
			if turns>>4 == 1 {
				p.gc(!on)
			}
			p.gc(false)
			if got := p.s.Parts(); !same(got, api.Parts{Runs: []api.Piece{{At: 0, Words: 2560}}}) {
				t.Fatalf("14.6: when all is freed, Parts is %v", got)
			}
		}
	}
}

func TestGCOfAnEmptyQueue(t *testing.T) {
	for _, sizes := range [][]int{nil, {40}, {512}, {1, 40, 100, 200, 512, 1000, 2000, 4000}} {
		p := made(t, 256)
		p.mustAlloc(sizes...)
		before := p.s.Parts()
		for _, on := range []bool{false, false, true, true, false, true, false, false} {
			p.gc(on)
			if p.s.On() != on {
				t.Errorf("14.4: after GC(%t) On is %t", on, !on)
			}
			if got := p.s.Parts(); !same(got, before) {
				t.Errorf("14.4: after GC(%t) Parts is %v, not %v", on, got, before)
			}
		}
	}
}

// kept returns a store in which three spans are kept back and five large stacks are in the list, with others live between them.
func kept(t *testing.T) *pair {
	t.Helper()
	p := made(t, 256)
	sizes := slices.Concat([]int{2000}, full(3, 1), []int{512, 1000}, full(2, 1), []int{1000, 512, 4000, 60}, full(0, 1), []int{512})
	list := p.mustAlloc(sizes...)
	p.gc(true)
	// The queue and the list get theirs in another order than that of the addresses.
	p.mustFree(list[0], list[4], list[10], list[3], list[9])
	p.mustFree(list[13:29]...)
	p.mustFree(list[2], list[1])
	p.mustFree(list[5:9]...)
	return p
}

func TestGCOfSeveral(t *testing.T) {
	p := kept(t)
	if got := p.s.Parts(); len(got.Late) != 3 || len(got.Large) != 5 || len(got.Live) != 3 || len(got.Pool) != 7 {
		t.Fatalf("14.5: what is kept back is %v", got)
	}
	live := p.s.Live()
	p.gc(true)
	if got := p.s.Parts(); len(got.Late) != 3 || len(got.Large) != 5 {
		t.Errorf("14.4: after a second GC(true) Parts is %v", got)
	}
	p.gc(false)
	got := p.s.Parts()
	if len(got.Late) != 0 || len(got.Large) != 0 {
		t.Errorf("14.4: after GC(false) Parts is %v", got)
	}
	if !slices.Equal(p.s.Live(), live) {
		t.Errorf("14.4: GC(false) changes the live stacks from %v to %v", live, p.s.Live())
	}
	before := p.s.Parts()
	p.gc(false)
	p.gc(true)
	if got := p.s.Parts(); !same(got, before) {
		t.Errorf("14.4: without anything kept back, GC changes Parts from %v to %v", before, got)
	}
}

func TestAllocAnewBehindGC(t *testing.T) {
	for c := range 8 {
		p := made(t, takes[c])
		for range 3 {
			list := p.mustAlloc(full(c, 1)...)
			p.gc(true)
			p.mustFree(list...)
			p.gc(false)
			p.none(list...)
			// The pages are of the heap again, for whatever class.
			for other := range 8 {
				if takes[other] <= takes[c] {
					p.mustFree(p.mustAlloc(words[other])...)
				}
			}
		}
	}
}

func TestKeptBackAndAllocatedAnew(t *testing.T) {
	for c := range 4 {
		for other := range 4 {
			p := made(t, 16)
			p.gc(true)
			p.mustFree(p.mustAlloc(words[c])...)
			p.mustFree(p.mustAlloc(words[other])...)
			p.refuses(words[c], api.ErrFull)
			p.gc(false)
			list := p.mustAlloc(full(other, 2)...)
			p.gc(true)
			p.mustFree(list...)
			if got := p.s.Parts().Late; !slices.Equal(got, []api.Piece{{At: 0, Words: 512}, {At: 512, Words: 512}}) {
				t.Errorf("14.3: what is kept back a second time is %v", got)
			}
			p.gc(false)
		}
	}
}

func TestPhaseBetweenTwoStacksOfASpan(t *testing.T) {
	for c := range 4 {
		for _, on := range []bool{false, true} {
			p := made(t, 16)
			list := p.mustAlloc(full(c, 1)...)
			p.gc(!on)
			p.mustFree(list[1:]...)
			// Only the phase of the last Free counts.
			p.gc(on)
			p.mustFree(list[0])
			if got := len(p.s.Parts().Late) == 1; got != on {
				t.Errorf("14.3: with the phase %t the span of class %d is kept back: %t", on, c, got)
			}
		}
	}
}

func TestPartsBehindEachCall(t *testing.T) {
	p := made(t, 40)
	piece := func(list ...int) []api.Piece {
		l := []api.Piece{}
		for i := 0; i < len(list); i += 2 {
			l = append(l, api.Piece{At: list[i], Words: list[i+1]})
		}
		return l
	}
	is := func(what string, want api.Parts) {
		t.Helper()
		if got := p.s.Parts(); !same(got, want) {
			t.Fatalf("14.5: after %s Parts is %v, not %v", what, got, want)
		}
	}
	p.alloc(1024)
	is("Alloc(1024)", api.Parts{Runs: piece(1024, 1536), Live: piece(0, 1024)})
	p.alloc(512)
	is("Alloc(512)", api.Parts{Runs: piece(1536, 1024), Live: piece(0, 1024, 1024, 512)})
	p.alloc(129)
	is("Alloc(129)", api.Parts{Runs: piece(2048, 512), Pool: piece(1792, 256), Live: piece(0, 1024, 1024, 512, 1536, 256)})
	p.alloc(65)
	is("Alloc(65)", api.Parts{Pool: piece(1792, 256, 2176, 128, 2304, 128, 2432, 128), Live: piece(0, 1024, 1024, 512, 1536, 256, 2048, 128)})
	p.gc(true)
	p.free(0)
	p.free(1024)
	// The list has the stack of class 4 first, and yet the pieces ascend.
	is("Free of large stacks", api.Parts{Pool: piece(1792, 256, 2176, 128, 2304, 128, 2432, 128), Large: piece(0, 1024, 1024, 512), Live: piece(1536, 256, 2048, 128)})
	p.free(2048)
	p.free(1536)
	// The queue has the span at 2048 first.
	is("Free of small stacks", api.Parts{Large: piece(0, 1024, 1024, 512), Late: piece(1536, 512, 2048, 512)})
	p.alloc(400)
	is("Alloc(400)", api.Parts{Large: piece(0, 1024), Late: piece(1536, 512, 2048, 512), Live: piece(1024, 512)})
	p.gc(false)
	is("GC(false)", api.Parts{Runs: piece(0, 1024, 1536, 1024), Live: piece(1024, 512)})
	p.free(1024)
	is("Free of all", api.Parts{Runs: piece(0, 2560)})
}

func TestPartsOfPoolsAscend(t *testing.T) {
	// The spans of the higher classes lie lower, and each chain is turned round.
	p := made(t, 64)
	list := p.mustAlloc(slices.Concat(full(3, 1), full(2, 1), full(1, 1), full(0, 1), full(3, 1), full(0, 1))...)
	for i, at := range list {
		if i%3 != 1 {
			p.mustFree(at)
		}
	}
	if got := p.s.Parts().Pool; len(got) < 20 {
		t.Errorf("14.5: Pool is %v", got)
	}
}

func TestSpansOfTheHeapHaveTheClass(t *testing.T) {
	for c := range 8 {
		p := made(t, 64)
		p.mustAlloc(words[c])
		want := []api.Span{{At: 0, N: takes[c], Class: c}}
		if got := p.s.heap.Spans(); !slices.Equal(got, want) {
			t.Errorf("14.2: after Alloc(%d) the heap has the spans %v, not %v", words[c], got, want)
		}
	}
}

// deed does one of a few calls on a store and on its picture.
func (p *pair) deed(kind int) {
	p.Helper()
	live := p.draw.live()
	switch {
	case kind < 4:
		want, code := p.draw.alloc([4]int{200, 128, 512, 1000}[kind])
		if at, e := p.s.Alloc([4]int{200, 128, 512, 1000}[kind]); at != want || e != code {
			p.Fatalf("14.2: Alloc number %d is %d, %d, not %d, %d", kind, at, e, want, code)
		}
	case kind < 6:
		p.draw.gc(kind == 4)
		p.s.GC(kind == 4)
	case len(live) > 0:
		at := live[(kind-6)*(len(live)-1)].At
		want := p.draw.free(at)
		if e := p.s.Free(at); e != want {
			p.Fatalf("14.3: Free(%d) is %d, not %d", at, e, want)
		}
	}
}

// TestAllShortHistories holds the store against the picture after all rows of a few calls.
func TestAllShortHistories(t *testing.T) {
	for length := range 6 {
		for row := range 1 << (3 * length) {
			p := &pair{t, New(24), drawn(24)}
			for i := range length {
				p.deed(row >> (3 * i) & 7)
			}
			p.hold(fmt.Sprintf("the row %o of %d calls", row, length))
		}
	}
}

// next steps a fixed row of numbers.
func next(x *uint64) int {
	*x ^= *x << 13
	*x ^= *x >> 7
	*x ^= *x << 17
	return int(*x >> 33)
}

// justified holds, if an Alloc of n words was refused for want of room, that nothing was there that would do.
func (p *pair) justified(n int) {
	p.Helper()
	c := class(n)
	parts := p.s.Parts()
	for _, x := range parts.Runs {
		if x.Words >= 64*takes[c] {
			p.Fatalf("T4: Alloc(%d) is refused, and %v is a free run", n, x)
		}
	}
	for _, x := range slices.Concat(parts.Pool, parts.Large) {
		if x.Words == words[c] {
			p.Fatalf("T4: Alloc(%d) is refused, and %v is there", n, x)
		}
	}
}

// step does one call of a long history.
func (p *pair) step(seed *uint64) {
	p.Helper()
	live := p.s.Live()
	switch k := next(seed) % 32; {
	case k == 0:
		p.gc(next(seed)%2 == 0)
	case k == 1:
		p.free(next(seed)%17000 - 300)
	case k == 2:
		p.alloc(next(seed)%9000 - 2000)
	case k < 17:
		// Small stacks are asked for more often than large ones.
		n := 1 + next(seed)%(1<<(5+next(seed)%8))
		at, e := p.alloc(n)
		if e != api.OK {
			p.justified(n)
		} else if slices.ContainsFunc(live, func(l api.Live) bool { return at < l.At+words[l.Class] && l.At < at+words[class(n)] }) {
			p.Fatalf("14.2, T1: Alloc(%d) is %d, where a stack of %v is live", n, at, live)
		}
	case len(live) > 0:
		p.mustFree(live[next(seed)%len(live)].At)
	}
}

// drain frees all stacks in a row without an order, turning the phase on and off between.
func (p *pair) drain(seed *uint64) {
	p.Helper()
	for live := p.s.Live(); len(live) > 0; live = p.s.Live() {
		if next(seed)%8 == 0 {
			p.gc(next(seed)%2 == 0)
		}
		p.mustFree(live[next(seed)%len(live)].At)
	}
	p.gc(false)
	if got := p.s.Parts(); !same(got, api.Parts{Runs: []api.Piece{{At: 0, Words: 32 * len(p.draw.units)}}}) {
		p.Fatalf("14.6, T4: when all is freed, Parts is %v", got)
	}
}

func TestHistory(t *testing.T) {
	seed := uint64(88172645463325252)
	for _, pages := range []int{8, 17, 40, 64, 100, 143, 256} {
		p := made(t, pages)
		for i := range 2400 {
			p.step(&seed)
			if i%600 == 599 {
				p.drain(&seed)
			}
		}
	}
}

// spoil writes over a list and over its spare capacity.
func spoil[T any](list []T, with T) {
	list = list[:cap(list)]
	for i := range list {
		list[i] = with
	}
}

func TestResultsAreNewMemory(t *testing.T) {
	p := kept(t)
	for round := range 6 {
		spoil(p.s.Live(), api.Live{At: -7, Class: -7, Owner: -7})
		p.hold("spoiled live stacks")
		for _, l := range lists(p.s.Parts()) {
			spoil(l, api.Piece{At: -7, Words: -7})
		}
		p.hold("spoiled pieces")
		live, parts := p.s.Live(), p.s.Parts()
		oldLive, oldParts := p.draw.live(), p.draw.parts()
		_ = append(p.s.Live(), api.Live{At: 1})
		switch round {
		case 0, 1, 2:
			p.mustAlloc(30, 60, 500, 1000)
		case 3:
			p.mustFree(oldLive[0].At, oldLive[2].At)
		case 4:
			p.gc(false)
		}
		if !slices.Equal(live, oldLive) || !same(parts, oldParts) {
			t.Fatalf("R4: what was told before has changed: %v, %v", live, parts)
		}
	}
}

func TestResultsAreApart(t *testing.T) {
	p := kept(t)
	for i := range 7 {
		parts := p.s.Parts()
		want := lists(p.draw.parts())
		spoil(lists(parts)[i], api.Piece{At: -7, Words: -7})
		for k, l := range lists(parts) {
			if k != i && !slices.Equal(l, want[k]) {
				t.Errorf("R4: the lists %d and %d of Parts share memory", i+1, k+1)
			}
		}
	}
}

func TestStoresAreApart(t *testing.T) {
	a, b := made(t, 64), made(t, 64)
	a.mustAlloc(32, 500, 32, 1000)
	b.hold("Alloc of another store")
	b.gc(true)
	b.mustAlloc(32, 100)
	b.mustFree(0)
	a.hold("Alloc, Free and GC of another store")
	b.none(32)
	a.mustFree(0, 32)
	b.mustAlloc(32)
	a.gc(true)
	b.gc(false)
	a.hold("GC of another store")
	seed := uint64(88172645463325252)
	for range 300 {
		a.step(&seed)
		b.hold("a call of another store")
		b.step(&seed)
		a.hold("a call of another store")
	}
}

func TestAnswersRepeat(t *testing.T) {
	a, b := kept(t), kept(t)
	one, two := uint64(88172645463325252), uint64(88172645463325252)
	for range 200 {
		a.step(&one)
		a.hold("asking")
		a.hold("asking again")
		b.step(&two)
		if !slices.Equal(a.s.Live(), b.s.Live()) || !same(a.s.Parts(), b.s.Parts()) || a.s.On() != b.s.On() {
			t.Fatalf("R1: the same calls leave %v and %v", a.s.Parts(), b.s.Parts())
		}
	}
}

func TestErrorsChangeNothing(t *testing.T) {
	for _, on := range []bool{false, true} {
		p := made(t, 31)
		list := p.mustAlloc(slices.Concat(full(3, 1), []int{500, 60})...)
		p.gc(on)
		p.mustFree(list[2])
		p.alloc(512)
		for _, n := range append(wrong(), 1000, 2000, 4000, 200, 100, 20) {
			before := p.s.Parts()
			if at, e := p.alloc(n); e == api.OK || at != 0 || !same(p.s.Parts(), before) {
				t.Errorf("R3, R5: Alloc(%d) is %d, %d, and leaves %v", n, at, e, p.s.Parts())
			}
		}
		p.none(append(far(31*64), 1, 31, 32, 64, 255, 257, 1056)...)
		// What was free before is still served.
		p.mustAlloc(full(1, 1)[1:]...)
	}
}

func TestNilStore(t *testing.T) {
	var s *Store
	for range 2 {
		for _, n := range append(append(wrong(), far(512)...), words[:]...) {
			if at, e := s.Alloc(n); at != 0 || e != api.ErrNone {
				t.Errorf("R6: Alloc(%d) of nil is %d, %d", n, at, e)
			}
			if e := s.Free(n); e != api.ErrNone {
				t.Errorf("R6: Free(%d) of nil is %d", n, e)
			}
		}
		if s.On() || len(s.Live()) != 0 || !same(s.Parts(), api.Parts{}) {
			t.Errorf("R6: nil tells %t, %v, %v", s.On(), s.Live(), s.Parts())
		}
		s.GC(false)
		s.GC(true)
	}
}

// TestZeroStore asks a store that New did not make: it has no pages.
func TestZeroStore(t *testing.T) {
	s := &Store{}
	for _, on := range []bool{false, true, false} {
		s.GC(on)
		for _, w := range words {
			if at, e := s.Alloc(w); at != 0 || e != api.ErrFull {
				t.Errorf("R1: Alloc(%d) in no pages is %d, %d", w, at, e)
			}
		}
		for _, n := range wrong() {
			if at, e := s.Alloc(n); at != 0 || e != api.ErrArg {
				t.Errorf("R1: Alloc(%d) in no pages is %d, %d", n, at, e)
			}
		}
		for _, at := range append(far(512), 0, 32) {
			if e := s.Free(at); e != api.ErrNone {
				t.Errorf("R1: Free(%d) in no pages is %d", at, e)
			}
		}
		if s.On() != on || len(s.Live()) != 0 || !same(s.Parts(), api.Parts{}) {
			t.Errorf("R1: no pages tell %t, %v, %v", s.On(), s.Live(), s.Parts())
		}
	}
}
