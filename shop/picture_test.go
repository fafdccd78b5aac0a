package shop

import (
	"fmt"
	"slices"
	"testing"

	"rickyard/api"
)

// words, takes, per and batch are the words of a stack, the pages of a span, its stacks and the batch of each class, by
// the table of chapter 8.
var (
	words = [8]int{32, 64, 128, 256, 512, 1024, 2048, 4096}
	takes = [8]int{8, 8, 8, 8, 8, 16, 32, 64}
	per   = [8]int{16, 8, 4, 2, 1, 1, 1, 1}
	batch = [8]int{4, 3, 2, 1, 0, 0, 0, 0}
)

// class looks up the class of a number of words, and is -1 if there is none.
func class(n int) int {
	for c, w := range words {
		if n >= 1 && n <= w {
			return c
		}
	}
	return -1
}

// Whose a unit is, in the order of the lists of api.Parts.
const (
	vacant = iota
	pooled
	stowed
	listed
	queued
	used
)

// unit is a unit of the arena: whose it is, where its piece begins, its class, and the first page of its span.
type unit struct{ who, first, class, span int }

// picture is the plain picture of a shop: its units, the chain of each span that is cut into stacks, the cache of each
// worker and class, and the phase.
type picture struct {
	units  []unit
	chains [][]int
	caches [][8][]int
	on     bool
}

// drawn returns the picture of a shop of so many pages and workers in which nothing is allocated.
func drawn(pages, workers int) *picture {
	p := &picture{units: make([]unit, 2*pages), chains: make([][]int, pages), caches: make([][8][]int, workers)}
	p.wipe(0, 64*pages)
	return p
}

// paint gives the units of n words from an address on to u.
func (p *picture) paint(at, n int, u unit) {
	for i := at / 32; i < (at+n)/32; i++ {
		p.units[i] = u
	}
}

// wipe makes n words from an address on part of a free run.
func (p *picture) wipe(at, n int) {
	p.paint(at, n, unit{who: vacant, first: -1, class: -1, span: -1})
}

// pass gives the stack at an address to somebody else.
func (p *picture) pass(at, who int) {
	u := p.units[at/32]
	u.who = who
	p.paint(at, words[u.class], u)
}

// there reports whether there is a worker w.
func (p *picture) there(w int) bool {
	return 0 <= w && w < len(p.caches)
}

// room returns the first page from which on n pages are free.
func (p *picture) room(n int) (int, bool) {
	count := 0
	for i, u := range p.units {
		if u.who != vacant {
			count = 0
			continue
		}
		// Spans begin and end with pages, so that two free units are one free page.
		count++
		if count == 2*n {
			return (i+1)/2 - n, true
		}
	}
	return 0, false
}

// waiting returns the stack of a class that is there to be taken: that of the lowest span which has one, or the lowest
// large one.
func (p *picture) waiting(c int) (int, bool) {
	for page, chain := range p.chains {
		if len(chain) > 0 && p.units[2*page].class == c {
			return chain[0], true
		}
	}
	for _, u := range p.units {
		if u.who == listed && u.class == c {
			return u.first, true
		}
	}
	return 0, false
}

// cut makes the pages of a span from a page on stacks of a class that wait to be taken.
func (p *picture) cut(page, c int) {
	for i := range per[c] {
		u := unit{who: pooled, first: 64*page + i*words[c], class: c, span: page}
		if c > 3 {
			u.who = listed
		} else {
			p.chains[page] = append(p.chains[page], u.first)
		}
		p.paint(u.first, words[c], u)
	}
}

// pick gives the stack of a class that waits to somebody.
func (p *picture) pick(c, who int) (int, bool) {
	at, ok := p.waiting(c)
	if !ok {
		return 0, false
	}
	if page := p.units[at/32].span; c <= 3 {
		p.chains[page] = slices.Clone(p.chains[page][1:])
	}
	p.pass(at, who)
	return at, true
}

// alloc is Alloc by the words of the chapter.
func (p *picture) alloc(w, n int) (int, api.Errno) {
	c := class(n)
	if !p.there(w) || c < 0 {
		return 0, api.ErrArg
	}
	if l := p.caches[w][c]; len(l) > 0 {
		p.caches[w][c] = slices.Clone(l[1:])
		p.pass(l[0], used)
		return l[0], api.OK
	}
	if _, ok := p.waiting(c); !ok {
		page, ok := p.room(takes[c])
		if !ok {
			return 0, api.ErrFull
		}
		p.cut(page, c)
	}
	first, _ := p.pick(c, used)
	for range batch[c] {
		if len(p.caches[w][c]) == batch[c]-1 {
			break
		}
		at, ok := p.pick(c, stowed)
		if !ok {
			break
		}
		p.caches[w][c] = slices.Insert(p.caches[w][c], 0, at)
	}
	return first, api.OK
}

// free is Free by the words of the chapter.
func (p *picture) free(w, at int) api.Errno {
	if !p.there(w) {
		return api.ErrArg
	}
	if !p.lives(at) {
		return api.ErrNone
	}
	c := p.units[at/32].class
	switch {
	case c > 3 && p.on:
		p.pass(at, listed)
	case c > 3:
		p.wipe(at, words[c])
	default:
		p.pass(at, stowed)
		p.caches[w][c] = slices.Insert(p.caches[w][c], 0, at)
		if len(p.caches[w][c]) > 2*batch[c] {
			p.back(w, c, batch[c])
		}
	}
	return api.OK
}

// flush is Flush by the words of the chapter.
func (p *picture) flush(w int) api.Errno {
	if !p.there(w) {
		return api.ErrArg
	}
	for c := range 4 {
		p.back(w, c, 0)
	}
	return api.OK
}

// back gives the first stacks of a cache back until n are left.
func (p *picture) back(w, c, n int) {
	for len(p.caches[w][c]) > n {
		at := p.caches[w][c][0]
		p.caches[w][c] = slices.Clone(p.caches[w][c][1:])
		p.pass(at, pooled)
		u := p.units[at/32]
		p.chains[u.span] = slices.Insert(p.chains[u.span], 0, at)
		p.gone(u)
	}
}

// gone takes the span of a unit from the stacks of its class if all of them are free.
func (p *picture) gone(u unit) {
	if len(p.chains[u.span]) < per[u.class] {
		return
	}
	p.chains[u.span] = nil
	p.wipe(64*u.span, 512)
	if p.on {
		p.paint(64*u.span, 512, unit{who: queued, first: 64 * u.span, class: u.class, span: u.span})
	}
}

// gc is GC by the words of the chapter.
func (p *picture) gc(on bool) {
	p.on = on
	for i, u := range p.units {
		if !on && (u.who == listed || u.who == queued) {
			p.wipe(32*i, 32)
		}
	}
}

// lives reports whether a live stack begins at an address.
func (p *picture) lives(at int) bool {
	if at < 0 || at >= 32*len(p.units) || at%32 != 0 {
		return false
	}
	u := p.units[at/32]
	return u.who == used && u.first == at
}

// live reads the live stacks off the picture, unit by unit.
func (p *picture) live() []api.Live {
	l := []api.Live{}
	for i, u := range p.units {
		if u.who == used && u.first == 32*i {
			l = append(l, api.Live{At: 32 * i, Class: u.class, Owner: -1})
		}
	}
	return l
}

// parts reads the pieces off the picture, unit by unit.
func (p *picture) parts() api.Parts {
	all := [6][]api.Piece{}
	for i, u := range p.units {
		l := all[u.who]
		if i > 0 && p.units[i-1].who == u.who && p.units[i-1].first == u.first {
			l[len(l)-1].Words += 32
			continue
		}
		all[u.who] = append(l, api.Piece{At: 32 * i, Words: 32})
	}
	return api.Parts{Runs: all[vacant], Pool: all[pooled], Cache: all[stowed], Large: all[listed], Late: all[queued], Live: all[used]}
}

// idle reports whether nothing is live, in a cache, or kept back by a phase.
func (p *picture) idle() bool {
	return !p.on && !slices.ContainsFunc(p.units, func(u unit) bool { return u.who == used || u.who == stowed })
}

// lists are the lists of pieces, in the order of api.Parts.
func lists(p api.Parts) [7][]api.Piece {
	return [7][]api.Piece{p.Runs, p.Pool, p.Cache, p.Large, p.Late, p.Live, p.Hand}
}

// same reports whether two Parts are alike; a nil list and an empty list are the same.
func same(a, b api.Parts) bool {
	for i, l := range lists(a) {
		if !slices.Equal(l, lists(b)[i]) {
			return false
		}
	}
	return true
}

// pair is a shop and the picture of it.
type pair struct {
	*testing.T
	s    *Shop
	draw *picture
}

// made returns a shop of so many pages and workers, with its picture.
func made(t *testing.T, pages, workers int) *pair {
	t.Helper()
	s := New(pages, workers)
	if s == nil {
		t.Fatalf("15.1: New(%d, %d) is nil", pages, workers)
	}
	p := &pair{t, s, drawn(pages, workers)}
	p.hold(fmt.Sprintf("New(%d, %d)", pages, workers))
	return p
}

// hold holds all that a shop tells against the picture; what says which call comes before.
func (p *pair) hold(what string) {
	p.Helper()
	if got, want := p.s.Live(), p.draw.live(); !slices.Equal(got, want) {
		p.Fatalf("15.4, R5: %s: Live is %v, not %v", what, got, want)
	}
	for w, caches := range p.draw.caches {
		for c, want := range caches {
			if got := p.s.Cached(w, c); !slices.Equal(got, want) {
				p.Fatalf("15.2 to 15.4, R5: %s: Cached(%d, %d) is %v, not %v", what, w, c, got, want)
			}
		}
	}
	got, want := p.s.Parts(), p.draw.parts()
	if !same(got, want) {
		p.Fatalf("15.4, R5: %s: Parts is %v, not %v", what, got, want)
	}
	if p.s.On() != p.draw.on {
		p.Fatalf("15.4, R5: %s: On is %t", what, !p.draw.on)
	}
	p.tiled(what, got)
	if p.draw.idle() && !slices.Equal(got.Runs, []api.Piece{{At: 0, Words: 32 * len(p.draw.units)}}) {
		p.Fatalf("15.5, T4: %s: all is freed and flushed, the phase is off, and the heap is %v", what, got.Runs)
	}
}

// tiled holds that each word of the arena is in just one piece.
func (p *pair) tiled(what string, parts api.Parts) {
	p.Helper()
	all := []api.Piece{}
	for i, l := range lists(parts) {
		if !slices.IsSortedFunc(l, func(a, b api.Piece) int { return a.At - b.At }) {
			p.Fatalf("15.4: %s: the list %d of Parts does not ascend: %v", what, i+1, l)
		}
		all = append(all, l...)
	}
	slices.SortFunc(all, func(a, b api.Piece) int { return a.At - b.At })
	end := 0
	for _, x := range all {
		if x.At != end || x.Words < 1 {
			p.Fatalf("15.4, T4: %s: %v comes behind the words up to %d", what, x, end)
		}
		end += x.Words
	}
	if end != 32*len(p.draw.units) {
		p.Fatalf("15.4, T4: %s: the pieces end with %d of %d words", what, end, 32*len(p.draw.units))
	}
}

// alloc calls Alloc on a shop and on its picture, and returns what both return.
func (p *pair) alloc(w, n int) (int, api.Errno) {
	p.Helper()
	want, code := p.draw.alloc(w, n)
	if at, e := p.s.Alloc(w, n); at != want || e != code {
		p.Fatalf("15.2, R2, R3: Alloc(%d, %d) is %d, %d, not %d, %d, in %v", w, n, at, e, want, code, p.s.Parts())
	}
	p.hold(fmt.Sprintf("Alloc(%d, %d)", w, n))
	return want, code
}

// free calls Free on a shop and on its picture, and returns what both return.
func (p *pair) free(w, at int) api.Errno {
	p.Helper()
	want := p.draw.free(w, at)
	if e := p.s.Free(w, at); e != want {
		p.Fatalf("15.3, R2: Free(%d, %d) is %d, not %d", w, at, e, want)
	}
	p.hold(fmt.Sprintf("Free(%d, %d)", w, at))
	return want
}

// flush calls Flush on a shop and on its picture, for each worker of a list.
func (p *pair) flush(list ...int) {
	p.Helper()
	for _, w := range list {
		want := p.draw.flush(w)
		if e := p.s.Flush(w); e != want {
			p.Fatalf("15.4: Flush(%d) is %d, not %d", w, e, want)
		}
		p.hold(fmt.Sprintf("Flush(%d)", w))
	}
}

// gc calls GC on a shop and on its picture.
func (p *pair) gc(on bool) {
	p.Helper()
	p.draw.gc(on)
	p.s.GC(on)
	p.hold(fmt.Sprintf("GC(%t)", on))
}

// mustAlloc allocates stacks for a worker that there is room for, and returns their addresses.
func (p *pair) mustAlloc(w int, sizes ...int) []int {
	p.Helper()
	list := []int{}
	for _, n := range sizes {
		at, e := p.alloc(w, n)
		if e != api.OK {
			p.Fatalf("15.2: Alloc(%d, %d) is %d", w, n, e)
		}
		list = append(list, at)
	}
	return list
}

// mustFree frees stacks that are live, on behalf of a worker.
func (p *pair) mustFree(w int, list ...int) {
	p.Helper()
	for _, at := range list {
		if e := p.free(w, at); e != api.OK {
			p.Fatalf("15.3: Free(%d, %d) is %d", w, at, e)
		}
	}
}

// refuses allocates n words for a worker, which must be refused with that code.
func (p *pair) refuses(w, n int, code api.Errno) {
	p.Helper()
	if at, e := p.alloc(w, n); at != 0 || e != code {
		p.Fatalf("15.2, R3: Alloc(%d, %d) is %d, %d, not 0, %d", w, n, at, e, code)
	}
}

// none frees at addresses at which no live stack begins.
func (p *pair) none(w int, list ...int) {
	p.Helper()
	for _, at := range list {
		if e := p.free(w, at); e != api.ErrNone {
			p.Fatalf("15.3: Free(%d, %d) is %d, not 2", w, at, e)
		}
	}
}

// workers are the numbers of all workers of a shop.
func (p *pair) workers() []int {
	list := []int{}
	for w := range p.draw.caches {
		list = append(list, w)
	}
	return list
}

// empty holds that the heap is one free run.
func (p *pair) empty(what string) {
	p.Helper()
	if got := p.s.Parts(); !same(got, api.Parts{Runs: []api.Piece{{At: 0, Words: 32 * len(p.draw.units)}}}) {
		p.Fatalf("15.5, T4: %s: Parts is %v", what, got)
	}
}
