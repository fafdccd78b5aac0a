package model

import (
	"math"
	"slices"
	"testing"

	"rickyard/api"
)

const (
	least = math.MinInt64
	most  = math.MaxInt64
)

// table is the words of the classes, as the chapter of the sizes lists them.
var table = [8]int{32, 64, 128, 256, 512, 1024, 2048, 4096}

// words looks up the words of a class, so that a number that is not a class has 0.
func words(class int) int {
	for c, n := range table {
		if c == class {
			return n
		}
	}
	return 0
}

// class looks up the class of a number of words, and is -1 if there is none.
func class(n int) int {
	for c, w := range table {
		if n >= 1 && n <= w {
			return c
		}
	}
	return -1
}

// of makes a model of its words and live stacks.
func of(words int, live ...api.Live) api.Model {
	return api.Model{Words: words, Live: live}
}

// call makes a stack that a call has allocated.
func call(at, class int) api.Live {
	return api.Live{At: at, Class: class, Owner: -1}
}

// same reports whether two models are alike; a nil list and an empty list are the same.
func same(a, b api.Model) bool {
	return a.Words == b.Words && slices.Equal(a.Live, b.Live)
}

// zero reports whether a model is what stands beside an error and beside false.
func zero(m api.Model) bool {
	return same(m, api.Model{})
}

// picture is an arena, unit by unit: 0 for one that is free, 1 for the first one of a live stack, 2 for any other one of it.
type picture [512]int

// unit returns the index of the unit that begins at an address; it is looked up, so that nothing can wrap round.
func unit(at int) (int, bool) {
	for u := range 512 {
		if u*32 == at {
			return u, true
		}
	}
	return 0, false
}

// lay draws a stack into a picture of so many words, if all its words are there and free.
func (p *picture) lay(words, at, n int) bool {
	u, ok := unit(at)
	if !ok || n < 1 || u*32+n > words {
		return false
	}
	for i := u; i < u+n/32; i++ {
		if p[i] != 0 {
			return false
		}
	}
	for i := u; i < u+n/32; i++ {
		p[i] = 2
	}
	p[u] = 1
	return true
}

// draw returns the picture of a model, and whether the model is valid by the words of the chapter.
func draw(m api.Model) (picture, bool) {
	p := picture{}
	if m.Words < 0 || m.Words > 16384 {
		return p, false
	}
	for i, l := range m.Live {
		if l.Owner < -1 || i > 0 && l.At <= m.Live[i-1].At || !p.lay(m.Words, l.At, words(l.Class)) {
			return p, false
		}
	}
	return p, true
}

// plainAlloc is Alloc by the words of the chapter; p is the picture of m.
func plainAlloc(m api.Model, p picture, n, at int) (api.Model, bool) {
	c := class(n)
	if c < 0 || !p.lay(m.Words, at, words(c)) {
		return api.Model{}, false
	}
	next, added := of(m.Words), false
	for _, l := range m.Live {
		if l.At > at && !added {
			next.Live, added = append(next.Live, call(at, c)), true
		}
		next.Live = append(next.Live, l)
	}
	if !added {
		next.Live = append(next.Live, call(at, c))
	}
	return next, true
}

// plainFind is Find by the words of the chapter.
func plainFind(m api.Model, at int) (api.Live, bool) {
	for _, l := range m.Live {
		if l.At == at {
			return l, true
		}
	}
	return api.Live{}, false
}

// plainFree is Free by the words of the chapter.
func plainFree(m api.Model, at int) (api.Model, api.Errno) {
	next, e := of(m.Words), api.ErrNone
	for _, l := range m.Live {
		if l.At == at {
			e = api.OK
		} else {
			next.Live = append(next.Live, l)
		}
	}
	if e != api.OK {
		return api.Model{}, e
	}
	return next, api.OK
}

// plainDeed executes one deed by the words of the chapter.
func plainDeed(m api.Model, d api.Deed) (api.Model, bool) {
	switch [2]int{d.Kind, int(d.Code)} {
	case [2]int{1, 0}:
		p, _ := draw(m)
		return plainAlloc(m, p, d.N, d.At)
	case [2]int{1, 3}:
		return m, class(d.N) >= 0
	case [2]int{1, 1}:
		return m, class(d.N) < 0
	case [2]int{2, 0}:
		next, e := plainFree(m, d.At)
		return next, e == api.OK
	case [2]int{2, 2}:
		_, found := plainFind(m, d.At)
		return m, !found
	}
	return m, false
}

// plainAccepts is Accepts by the words of the chapter.
func plainAccepts(m api.Model, l []api.Deed) (api.Model, int, bool) {
	for i, d := range l {
		next, ok := plainDeed(m, d)
		if !ok {
			return m, i, false
		}
		m = next
	}
	return m, len(l), true
}

// owners are owners that a live stack may have.
var owners = [5]int{-1, 0, 3, 1 << 40, most}

// small are all valid models of so many units whose stacks are of the classes 0 to 2, each with rest words more.
func small(units, rest int) []api.Model {
	all := []api.Model{}
	var grow func(u int, live []api.Live)
	grow = func(u int, live []api.Live) {
		if u == units {
			all = append(all, of(units*32+rest, slices.Clone(live)...))
			return
		}
		grow(u+1, live)
		for c, n := range [3]int{1, 2, 4} {
			if u+n <= units {
				grow(u+n, append(live, api.Live{At: u * 32, Class: c, Owner: owners[(u+c+len(live))%5]}))
			}
		}
	}
	grow(0, nil)
	return all
}

// great are valid models of many words.
func great() []api.Model {
	all := []api.Model{of(16384), of(16383), of(4096), of(4095), of(8192, call(4096, 7)), of(16384, call(0, 7), call(4096, 7), call(8192, 7), call(12288, 7))}
	for _, c := range []int{0, 1, 4, 7} {
		full := of(16384)
		for at := 0; at < 16384; at += words(c) {
			full.Live = append(full.Live, api.Live{At: at, Class: c, Owner: owners[at/32%5]})
		}
		all = append(all, full)
	}
	mixed := of(16384)
	for at, c := 32, 0; at+words(c) <= 16384; c = (c + 3) % 8 {
		mixed.Live = append(mixed.Live, api.Live{At: at, Class: c, Owner: owners[c%5]})
		at += words(c) + 32*(c%3)
	}
	gaps := of(16384)
	for at := 0; at < 16384; at += 96 {
		gaps.Live = append(gaps.Live, call(at, 0))
	}
	return append(all, mixed, gaps)
}

// models are valid ones: all small ones, and great ones.
func models() []api.Model {
	all := great()
	for units := range 5 {
		for _, rest := range []int{0, 1, 31} {
			all = append(all, small(units, rest)...)
		}
	}
	return append(all, small(6, 0)...)
}

// far are numbers that are no address of an arena, those that a narrow integer takes for one among them.
func far() []int {
	return []int{
		least, least + 1, least + 31, least + 32, least + 4096, -1 << 62, -1 << 32, -1<<32 + 32, -1 << 31, -65536, -16384, -4096, -64, -33, -32, -31, -1,
		16384, 16385, 16416, 65536, 1 << 31, 1<<31 + 32, 1 << 32, 1<<32 + 32, 1<<32 + 64, 1 << 61, 1<<61 + 32, 1 << 62, most - 4095, most - 63, most - 32, most - 31, most - 1, most,
	}
}

// addresses are the addresses to ask of a model: near ones, the edges of its words and stacks, and far ones.
func addresses(m api.Model) []int {
	all := append(far(), 16, 31, 33, 16320, 16352, 12288, 12320)
	for at := 0; at <= 7*32; at += 32 {
		all = append(all, at)
	}
	for _, n := range append(table[:], 0) {
		all = append(all, m.Words-n-32, m.Words-n-1, m.Words-n, m.Words-n+1, m.Words-n+32)
	}
	for i, l := range m.Live {
		if i < 4 || i >= len(m.Live)-2 || i == len(m.Live)/2 {
			all = append(all, l.At-64, l.At-32, l.At-1, l.At, l.At+1, l.At+16, l.At+words(l.Class)-32, l.At+words(l.Class), l.At+words(l.Class)+32)
		}
	}
	slices.Sort(all)
	return slices.Compact(all)
}

// sizes are numbers of words: the edges of each class, and those that have none.
func sizes() []int {
	all := []int{least, least + 32, -4096, -32, -1, 0, 1, 4097, 8192, 1 << 31, 1<<32 + 32, 1 << 62, most - 31, most}
	for _, n := range table {
		all = append(all, n-1, n, n+1)
	}
	slices.Sort(all)
	return slices.Compact(all)
}

// spoil writes all over the live stacks of a model, their spare capacity included.
func spoil(m api.Model) {
	live := m.Live[:cap(m.Live)]
	for i := range live {
		live[i] = api.Live{At: -7, Class: -7, Owner: -7}
	}
}

// within returns a model whose live stacks are a piece of a longer list, so that they have spare capacity, and this list.
func within(m api.Model) (api.Model, []api.Live) {
	whole := []api.Live{{At: -9}}
	whole = append(whole, m.Live...)
	whole = append(whole, api.Live{At: -8}, api.Live{At: -8}, api.Live{At: -8})
	return api.Model{Words: m.Words, Live: whole[1 : 1+len(m.Live)]}, whole
}

// alloc makes a DAlloc.
func alloc(n, at int, e api.Errno) api.Deed {
	return api.Deed{Kind: api.DAlloc, N: n, At: at, Code: e}
}

// free makes a DFree.
func free(at int, e api.Errno) api.Deed {
	return api.Deed{Kind: api.DFree, At: at, Code: e}
}

func TestExamples(t *testing.T) {
	if m := New(64); m.Words != 64 || len(m.Live) != 0 {
		t.Errorf("13.1: New(64) returns %v", m)
	}
	if May(of(32, call(0, 1))) {
		t.Error("13.1: a stack of class 1 lies within 32 words")
	}
	if m, ok := Alloc(of(64, call(0, 0), call(32, 0)), 1, 0); !zero(m) || ok {
		t.Errorf("13.1: Alloc in a full model returns %v, %t", m, ok)
	}
	if m, e := Free(New(64), 0); !zero(m) || e != api.ErrNone {
		t.Errorf("13.1: Free in a new model returns %v, %d", m, e)
	}
	if l, ok := Find(New(64), 0); l != (api.Live{}) || ok {
		t.Errorf("13.1: Find in a new model returns %v, %t", l, ok)
	}
	if m, n, ok := Accepts(New(64)); !same(m, of(64)) || n != 0 || !ok {
		t.Errorf("13.2: Accepts without deeds returns %v, %d, %t", m, n, ok)
	}
}

func TestNew(t *testing.T) {
	for _, n := range append(far(), 0, 1, 31, 32, 33, 63, 64, 4096, 16383, 16384) {
		m := New(n)
		if m.Words != n || len(m.Live) != 0 {
			t.Errorf("13.1: New(%d) returns %v", n, m)
		}
		if want := n >= 0 && n <= 16384; May(m) != want {
			t.Errorf("13.1, R7: May of New(%d) is %t", n, !want)
		}
	}
}

func TestMay(t *testing.T) {
	for _, m := range models() {
		if !May(m) {
			t.Errorf("13.1: %v is not valid", m)
		}
	}
	for _, m := range []api.Model{
		of(0), of(1), of(31), of(32, call(0, 0)), of(33, call(0, 0)), of(63, call(0, 0)), of(16384), of(16384, call(16352, 0)), of(16384, call(12288, 7)), of(16383, call(16320, 0)),
		// Stacks side by side, with a gap, and of an address that is a multiple of Unit alone.
		of(64, call(0, 0), call(32, 0)), of(160, call(32, 1), call(96, 1)), of(96, call(32, 1)), of(16384, call(32, 7), call(4128, 7), call(8224, 7)), of(128, call(0, 0), call(96, 0)),
		of(32, api.Live{Owner: 0}), of(32, api.Live{Owner: most}), of(64, api.Live{Owner: 5}, api.Live{At: 32, Owner: 5}),
	} {
		if !May(m) {
			t.Errorf("13.1: %v is not valid", m)
		}
	}
}

func TestMayNot(t *testing.T) {
	wrong := []api.Model{
		of(-1), of(16385), of(-32), of(least), of(most), of(1 << 32), of(1<<32 + 64), of(-1, call(0, 0)), of(16385, call(0, 0)), of(least, call(0, 0)), of(most, call(0, 0)),
		// An owner that is none, alone and behind others.
		of(32, api.Live{Owner: -2}), of(32, api.Live{Owner: least}), of(96, call(0, 0), call(32, 0), api.Live{At: 64, Owner: -2}), of(96, api.Live{Owner: -2}, call(32, 0)),
		// Addresses that do not ascend, that are the same twice, that have a word in common with the one before: first and last.
		of(128, call(64, 0), call(0, 0)), of(128, call(0, 0), call(0, 0)), of(128, call(96, 0), call(96, 0)), of(128, call(0, 1), call(0, 0)), of(128, call(0, 1), call(32, 0)),
		of(256, call(0, 1), call(32, 0), call(96, 0), call(128, 0)), of(256, call(0, 0), call(32, 0), call(64, 2), call(160, 0)), of(256, call(0, 0), call(64, 0), call(32, 0)), of(256, call(0, 0), call(32, 2), call(128, 2)),
		of(16384, call(0, 7), call(4064, 7)), of(16384, call(0, 7), call(64, 0)),
		// Out of order, though no two have a word in common.
		of(256, call(32, 0), call(0, 0), call(64, 0)), of(256, call(0, 0), call(64, 0), call(128, 0), call(96, 0)), of(16384, call(12288, 7), call(8192, 7)),
	}
	for _, c := range []int{-1, 8, 9, 64, 1 << 32, least, most} {
		wrong = append(wrong, of(16384, call(0, c)), of(16384, call(0, 0), call(64, c)), of(16384, call(0, c), call(8192, 0)))
	}
	for c, n := range table {
		// One unit and one word too few, at 0 and at another address, alone and behind another.
		wrong = append(wrong, of(n-1, call(0, c)), of(n-32, call(0, c)), of(n+31, call(32, c)), of(n+63, call(0, 0), call(64, c)), of(16384, call(16384-n+32, c)), of(16383, call(16384-n, c)))
		wrong = append(wrong, of(16384, call(-32, c)), of(16384, call(-n, c)), of(16384, call(most-n+1, c)), of(16384, call(most-31, c)), of(16384, call(least, c)))
	}
	for _, at := range append(far(), 1, 16, 31, 33, 48, 63) {
		wrong = append(wrong, of(16384, call(at, 0)), of(16384, call(0, 0), call(at, 0)), of(16384, call(at, 0), call(8192, 0)))
	}
	for _, m := range wrong {
		if May(m) {
			t.Errorf("13.1, R7: %v is valid", m)
		}
	}
}

// fields are stacks of many addresses and classes, ordinary ones and not, with one owner.
func fields(owner int) []api.Live {
	all := []api.Live{}
	for _, at := range []int{least, -64, -32, -1, 0, 16, 32, 33, 64, 96, 128, 160, 192, 1<<32 + 32, most - 31, most} {
		for _, c := range []int{least, -1, 0, 1, 2, 7, 8, most} {
			all = append(all, api.Live{At: at, Class: c, Owner: owner})
		}
	}
	return all
}

// TestMayOfAllPairs holds May against the picture for single stacks and for all pairs, of which each may be wrong.
func TestMayOfAllPairs(t *testing.T) {
	check := func(m api.Model) {
		if _, want := draw(m); May(m) != want {
			t.Fatalf("13.1, R7: May(%v) is %t", m, !want)
		}
	}
	for _, n := range []int{least, -1, 0, 31, 32, 64, 95, 96, 127, 128, 160, 256, 16384, 16385, most} {
		for _, owner := range []int{least, -2, -1, 0, most} {
			for _, a := range fields(owner) {
				check(of(n, a))
			}
		}
		for _, owner := range [][2]int{{-1, 0}, {-2, -1}, {0, -2}} {
			for _, a := range fields(owner[0]) {
				for _, b := range fields(owner[1]) {
					check(of(n, a, b))
				}
			}
		}
	}
}

// TestMayOfLongLists makes one stack of a long list wrong, at each place.
func TestMayOfLongLists(t *testing.T) {
	for _, m := range great() {
		for i := range m.Live {
			for _, wrong := range []api.Live{{At: -32, Owner: -1}, {At: m.Live[i].At + 1, Owner: -1}, {At: m.Live[i].At, Class: 8}, {At: m.Live[i].At, Owner: -2}, m.Live[max(i-1, 0)], m.Live[min(i+1, len(m.Live)-1)], {At: 16384}, {At: most}, {At: m.Live[i].At, Class: 7}} {
				other := of(m.Words, slices.Clone(m.Live)...)
				other.Live[i] = wrong
				if _, want := draw(other); May(other) != want {
					t.Fatalf("13.1: May of %d stacks whose stack %d is %v is %t", len(m.Live), i, wrong, !want)
				}
			}
		}
	}
}

func TestAlloc(t *testing.T) {
	m := of(512, api.Live{At: 64, Class: 1, Owner: 2}, call(256, 0), api.Live{At: 384, Class: 0, Owner: 0})
	a, b, c := m.Live[0], m.Live[1], m.Live[2]
	for _, w := range []struct {
		n, at int
		want  []api.Live
	}{
		// Ahead of all, with and without a gap.
		{1, 0, []api.Live{call(0, 0), a, b, c}}, {32, 32, []api.Live{call(32, 0), a, b, c}}, {33, 0, []api.Live{call(0, 1), a, b, c}}, {64, 0, []api.Live{call(0, 1), a, b, c}},
		// Between two: just behind the one below, just ahead of the one above, and with both.
		{128, 128, []api.Live{a, call(128, 2), b, c}}, {65, 128, []api.Live{a, call(128, 2), b, c}}, {1, 128, []api.Live{a, call(128, 0), b, c}}, {64, 192, []api.Live{a, call(192, 1), b, c}}, {32, 224, []api.Live{a, call(224, 0), b, c}},
		{96, 128, []api.Live{a, call(128, 2), b, c}}, {64, 288, []api.Live{a, b, call(288, 1), c}}, {64, 320, []api.Live{a, b, call(320, 1), c}}, {1, 352, []api.Live{a, b, call(352, 0), c}},
		// Behind all, up to the last word.
		{64, 416, []api.Live{a, b, c, call(416, 1)}}, {33, 448, []api.Live{a, b, c, call(448, 1)}}, {31, 480, []api.Live{a, b, c, call(480, 0)}},
	} {
		if got, ok := Alloc(m, w.n, w.at); !same(got, of(512, w.want...)) || !ok {
			t.Errorf("13.1: Alloc of %d words at %d returns %v, %t", w.n, w.at, got, ok)
		}
	}
	for _, w := range [][2]int{
		{1, 64}, {1, 96}, {1, 256}, {1, 384}, {64, 32}, {128, 0}, {33, 32}, {129, 128}, {128, 160}, {64, 224}, {33, 224}, {256, 0}, {65, 288}, {64, 352}, {128, 416}, {65, 416}, {64, 480}, {33, 480},
		// One that would hold a live stack in its middle, and all of them.
		{256, 192}, {512, 0}, {256, 128},
		{1, 512}, {1, 544}, {1, 16384}, {1, -32}, {64, -64}, {1, 1}, {1, 16}, {1, 31}, {1, 33}, {1, -1}, {1, 481}, {32, most - 31}, {1, least}, {1, 1<<32 + 32}, {4096, most - 4095}, {32, least + 32},
		{0, 0}, {-1, 0}, {least, 0}, {4097, 0}, {most, 0}, {1<<32 + 1, 0}, {0, 480}, {1024, 0}, {4096, 0},
	} {
		if got, ok := Alloc(m, w[0], w[1]); !zero(got) || ok {
			t.Errorf("13.1, R3: Alloc of %d words at %d returns %v, %t", w[0], w[1], got, ok)
		}
	}
}

// TestAllocOfEachClass allocates a stack of each class ahead of, between and behind live stacks, where it just fits and where it does not.
func TestAllocOfEachClass(t *testing.T) {
	for c, w := range table {
		below, above := api.Live{At: 64, Class: 1, Owner: 4}, api.Live{At: 128 + w, Owner: 0}
		m := of(160+w, below, above)
		for _, n := range []int{w/2 + 1, w - 1, w} {
			if got, ok := Alloc(m, n, 128); !same(got, of(160+w, below, call(128, c), above)) || !ok {
				t.Errorf("13.1: Alloc of %d words between two stacks returns %v, %t", n, got, ok)
			}
			if got, ok := Alloc(of(128+w, below), n, 128); !same(got, of(128+w, below, call(128, c))) || !ok {
				t.Errorf("13.1: Alloc of %d words behind a stack returns %v, %t", n, got, ok)
			}
			if got, ok := Alloc(of(160+w, above), n, 128); !same(got, of(160+w, call(128, c), above)) || !ok {
				t.Errorf("13.1: Alloc of %d words ahead of a stack returns %v, %t", n, got, ok)
			}
			for _, at := range []int{96, 160} {
				if got, ok := Alloc(m, n, at); !zero(got) || ok {
					t.Errorf("13.1: Alloc of %d words at %d, one unit of which is live, returns %v, %t", n, at, got, ok)
				}
			}
			for _, short := range []int{1, 31, 32} {
				if got, ok := Alloc(of(128+w-short, below), n, 128); !zero(got) || ok {
					t.Errorf("13.1: Alloc of %d words with %d too few returns %v, %t", n, short, got, ok)
				}
			}
			if got, ok := Alloc(of(w), n, 0); !same(got, of(w, call(0, c))) || !ok {
				t.Errorf("13.1: Alloc of all %d words returns %v, %t", w, got, ok)
			}
		}
	}
}

func TestAllocInAllModels(t *testing.T) {
	ns := sizes()
	for _, m := range models() {
		p, _ := draw(m)
		for _, at := range addresses(m) {
			for _, n := range ns {
				want, should := plainAlloc(m, p, n, at)
				got, ok := Alloc(m, n, at)
				if !same(got, want) || ok != should {
					t.Fatalf("13.1, R3, R7: Alloc(%v, %d, %d) returns %v, %t", m, n, at, got, ok)
				}
				if ok && !May(got) {
					t.Fatalf("13.1, 13.3: Alloc(%v, %d, %d) returns %v, which is not valid", m, n, at, got)
				}
			}
		}
	}
}

func TestFree(t *testing.T) {
	a, b, c := api.Live{At: 0, Class: 1, Owner: 2}, call(128, 0), api.Live{At: 160, Class: 2, Owner: most}
	m := of(300, a, b, c)
	for _, w := range []struct {
		at   int
		want []api.Live
	}{{0, []api.Live{b, c}}, {128, []api.Live{a, c}}, {160, []api.Live{a, b}}} {
		if got, e := Free(m, w.at); !same(got, of(300, w.want...)) || e != api.OK {
			t.Errorf("13.1: Free of %d returns %v, %d", w.at, got, e)
		}
	}
	// Within a stack, between two, behind all, and far away.
	for _, at := range append(far(), 32, 63, 1, 64, 96, 127, 129, 159, 192, 224, 256, 287, 288, 300) {
		if got, e := Free(m, at); !zero(got) || e != api.ErrNone {
			t.Errorf("13.1, R3: Free of %d returns %v, %d", at, got, e)
		}
		if got, e := Free(New(300), at); !zero(got) || e != api.ErrNone {
			t.Errorf("13.1, R3: Free of %d in a new model returns %v, %d", at, got, e)
		}
	}
	if got, e := Free(of(32, call(0, 0)), 0); !same(got, of(32)) || e != api.OK {
		t.Errorf("13.1: Free of the one live stack returns %v, %d", got, e)
	}
}

func TestFind(t *testing.T) {
	m := of(300, api.Live{At: 0, Class: 1, Owner: 2}, call(128, 0), api.Live{At: 160, Class: 2, Owner: most})
	for _, l := range m.Live {
		if got, ok := Find(m, l.At); got != l || !ok {
			t.Errorf("13.1: Find of %d returns %v, %t", l.At, got, ok)
		}
	}
	for _, at := range append(far(), 32, 63, 1, 64, 96, 127, 129, 159, 192, 224, 256, 287, 288, 300) {
		if got, ok := Find(m, at); got != (api.Live{}) || ok {
			t.Errorf("13.1, R3: Find of %d returns %v, %t", at, got, ok)
		}
		if got, ok := Find(New(300), at); got != (api.Live{}) || ok {
			t.Errorf("13.1, R3: Find of %d in a new model returns %v, %t", at, got, ok)
		}
	}
}

func TestFreeAndFindInAllModels(t *testing.T) {
	for _, m := range models() {
		ats := addresses(m)
		for _, l := range m.Live {
			ats = append(ats, l.At)
		}
		for _, at := range ats {
			want, code := plainFree(m, at)
			if got, e := Free(m, at); !same(got, want) || e != code {
				t.Fatalf("13.1, R3, R7: Free(%v, %d) returns %v, %d", m, at, got, e)
			}
			l, should := plainFind(m, at)
			if got, ok := Find(m, at); got != l || ok != should {
				t.Fatalf("13.1, R3, R7: Find(%v, %d) returns %v, %t", m, at, got, ok)
			}
		}
	}
}

// TestFreeUndoesAlloc allocates, and frees what was allocated.
func TestFreeUndoesAlloc(t *testing.T) {
	for _, m := range models() {
		for _, at := range addresses(m) {
			for _, n := range []int{1, 64, 100, 4096} {
				next, ok := Alloc(m, n, at)
				if !ok {
					continue
				}
				if l, found := Find(next, at); l != call(at, class(n)) || !found {
					t.Fatalf("13.1: behind Alloc(%v, %d, %d) Find returns %v, %t", m, n, at, l, found)
				}
				if back, e := Free(next, at); !same(back, m) || e != api.OK {
					t.Fatalf("13.1: behind Alloc(%v, %d, %d) Free returns %v, %d", m, n, at, back, e)
				}
			}
		}
	}
}

func TestAccepts(t *testing.T) {
	a, b := api.Live{At: 32, Class: 0, Owner: 2}, call(128, 1)
	m := of(256, a, b)
	for _, c := range []struct {
		l    []api.Deed
		want []api.Live
		n    int
		ok   bool
	}{
		{nil, []api.Live{a, b}, 0, true},
		{[]api.Deed{alloc(1, 0, api.OK)}, []api.Live{call(0, 0), a, b}, 1, true},
		{[]api.Deed{alloc(64, 64, api.OK)}, []api.Live{a, call(64, 1), b}, 1, true},
		{[]api.Deed{alloc(33, 192, api.OK)}, []api.Live{a, b, call(192, 1)}, 1, true},
		{[]api.Deed{free(32, api.OK)}, []api.Live{b}, 1, true},
		{[]api.Deed{free(128, api.OK)}, []api.Live{a}, 1, true},
		{[]api.Deed{free(160, api.ErrNone)}, []api.Live{a, b}, 1, true},
		{[]api.Deed{free(least, api.ErrNone)}, []api.Live{a, b}, 1, true},
		// No room, though there is some; and wherever the address is.
		{[]api.Deed{alloc(32, 0, api.ErrFull)}, []api.Live{a, b}, 1, true},
		{[]api.Deed{alloc(4096, most, api.ErrFull)}, []api.Live{a, b}, 1, true},
		{[]api.Deed{alloc(0, 0, api.ErrArg)}, []api.Live{a, b}, 1, true},
		{[]api.Deed{alloc(4097, 7, api.ErrArg)}, []api.Live{a, b}, 1, true},
		{[]api.Deed{alloc(least, least, api.ErrArg)}, []api.Live{a, b}, 1, true},
		// N of a free means nothing.
		{[]api.Deed{{Kind: api.DFree, N: -5, At: 32}, {Kind: api.DFree, N: most, At: 32, Code: api.ErrNone}}, []api.Live{b}, 2, true},
		// Those that are not accepted.
		{[]api.Deed{alloc(1, 32, api.OK)}, []api.Live{a, b}, 0, false},
		{[]api.Deed{alloc(65, 0, api.OK)}, []api.Live{a, b}, 0, false},
		{[]api.Deed{alloc(0, 0, api.OK)}, []api.Live{a, b}, 0, false},
		{[]api.Deed{alloc(0, 0, api.ErrFull)}, []api.Live{a, b}, 0, false},
		{[]api.Deed{alloc(4097, 0, api.ErrFull)}, []api.Live{a, b}, 0, false},
		{[]api.Deed{alloc(1, 0, api.ErrArg)}, []api.Live{a, b}, 0, false},
		{[]api.Deed{alloc(1, 1, api.ErrArg)}, []api.Live{a, b}, 0, false},
		{[]api.Deed{alloc(4096, 0, api.ErrArg)}, []api.Live{a, b}, 0, false},
		{[]api.Deed{free(160, api.OK)}, []api.Live{a, b}, 0, false},
		{[]api.Deed{free(32, api.ErrNone)}, []api.Live{a, b}, 0, false},
		{[]api.Deed{alloc(1, 0, api.ErrNone)}, []api.Live{a, b}, 0, false},
		{[]api.Deed{free(32, api.ErrFull)}, []api.Live{a, b}, 0, false},
		{[]api.Deed{free(0, api.ErrArg)}, []api.Live{a, b}, 0, false},
		// The first, the middle and the last of some is not accepted: what was executed ahead of it stays.
		{[]api.Deed{free(0, api.OK), free(32, api.OK), free(128, api.OK)}, []api.Live{a, b}, 0, false},
		{[]api.Deed{free(32, api.OK), free(32, api.OK), free(128, api.OK)}, []api.Live{b}, 1, false},
		{[]api.Deed{free(32, api.OK), free(128, api.OK), free(128, api.OK)}, nil, 2, false},
		{[]api.Deed{alloc(1, 0, api.OK), alloc(1, 64, api.OK), alloc(33, 64, api.OK), free(0, api.OK)}, []api.Live{call(0, 0), a, call(64, 0), b}, 2, false},
		{[]api.Deed{free(32, api.OK), alloc(128, 0, api.OK), free(0, api.OK), alloc(32, 32, api.OK), alloc(32, 32, api.ErrFull)}, []api.Live{call(32, 0), b}, 5, true},
	} {
		if got, n, ok := Accepts(m, c.l...); !same(got, of(256, c.want...)) || n != c.n || ok != c.ok {
			t.Errorf("13.2: Accepts of %v returns %v, %d, %t", c.l, got, n, ok)
		}
	}
}

// codes are all codes, and numbers that are none.
func codes() []api.Errno {
	all := []api.Errno{least, -1, 10, 1 << 32, 1<<32 + 3, most}
	for e := range api.Errno(10) {
		all = append(all, e)
	}
	return all
}

// TestAcceptsOfEachDeed executes each kind of deed with each code, in each model.
func TestAcceptsOfEachDeed(t *testing.T) {
	all := append(great(), append(small(3, 0), small(2, 31)...)...)
	for _, m := range all {
		for _, kind := range []int{least, -1, 0, 1, 2, 3, 1<<32 + 1, 1<<32 + 2, most} {
			for _, code := range codes() {
				for _, n := range []int{least, -1, 0, 1, 33, 4096, 4097, most} {
					for _, at := range []int{least, -32, 0, 32, 64, 16, 96, 4096, most - 31} {
						d := api.Deed{Kind: kind, N: n, At: at, Code: code}
						want, i, should := plainAccepts(m, []api.Deed{d})
						if got, k, ok := Accepts(m, d); !same(got, want) || k != i || ok != should {
							t.Fatalf("13.2, R7: Accepts(%v, %v) returns %v, %d, %t", m, d, got, k, ok)
						}
					}
				}
			}
		}
	}
}

// deeds are some of each kind, most of which may be accepted.
func deeds() []api.Deed {
	all := []api.Deed{{}, {Kind: 3}, alloc(1, 0, api.ErrFull), alloc(0, 0, api.ErrArg), alloc(0, 0, api.ErrFull), alloc(1, 0, api.ErrArg), alloc(1, 16, api.OK), free(0, api.ErrFull)}
	for at := 0; at <= 96; at += 32 {
		all = append(all, alloc(32, at, api.OK), alloc(64, at, api.OK), free(at, api.OK), free(at, api.ErrNone))
	}
	return all
}

// TestAcceptsOfAllTriples executes all rows of up to three deeds.
func TestAcceptsOfAllTriples(t *testing.T) {
	all := deeds()
	for _, m := range []api.Model{of(96), of(127), of(128, api.Live{At: 32, Owner: 1}), of(128, call(0, 1), api.Live{At: 96, Owner: 0})} {
		check := func(l ...api.Deed) {
			want, i, should := plainAccepts(m, l)
			if got, n, ok := Accepts(m, l...); !same(got, want) || n != i || ok != should {
				t.Fatalf("13.2: Accepts(%v, %v) returns %v, %d, %t", m, l, got, n, ok)
			}
		}
		for _, a := range all {
			check(a)
			for _, b := range all {
				check(a, b)
				for _, c := range all {
					check(a, b, c)
				}
			}
		}
	}
}

// TestAcceptsInPieces executes deeds one by one, and all at once: it is the same.
func TestAcceptsInPieces(t *testing.T) {
	l := []api.Deed{}
	for at := 0; at < 16384; at += 64 {
		l = append(l, alloc(1+at%32, at, api.OK), alloc(32, (at+8192+32)%16384, api.OK), free(at, api.OK), free(at, api.ErrNone), alloc(1, 0, api.ErrFull))
	}
	m, whole := New(16384), []api.Live{}
	for i, d := range l {
		next, n, ok := Accepts(m, d)
		if n != 1 || !ok {
			t.Fatalf("13.2: deed %d of many, %v, returns %d, %t", i, d, n, ok)
		}
		m = next
		if i%100 == 0 {
			if got, n, ok := Accepts(New(16384), l[:i+1]...); !same(got, m) || n != i+1 || !ok {
				t.Fatalf("13.2: %d deeds at once return %v, %d, %t, not %v", i+1, got, n, ok, m)
			}
			bad := append(slices.Clone(l[:i+1]), api.Deed{Kind: 3}, l[i])
			if got, n, ok := Accepts(New(16384), bad...); !same(got, m) || n != i+1 || ok {
				t.Fatalf("13.2: %d deeds and a wrong one return %v, %d, %t, not %v", i+1, got, n, ok, m)
			}
		}
	}
	for at := 32; at < 16384; at += 64 {
		whole = append(whole, call(at, 0))
	}
	if !same(m, of(16384, whole...)) {
		t.Errorf("13.2: behind all deeds the model is %v", m)
	}
}

// TestAcceptsOfManyDeeds executes a great many deeds in a model that is nearly full.
func TestAcceptsOfManyDeeds(t *testing.T) {
	m := of(16384)
	for at := 0; at < 16352; at += 32 {
		m.Live = append(m.Live, call(at, 0))
	}
	l := []api.Deed{}
	for range 100000 {
		l = append(l, alloc(32, 16352, api.OK), free(0, api.OK), alloc(1, 0, api.OK), free(16352, api.OK))
	}
	if got, n, ok := Accepts(m, l...); !same(got, m) || n != len(l) || !ok {
		t.Errorf("13.2, R1: %d deeds return %d, %t", len(l), n, ok)
	}
}

// TestHistory holds many calls, chosen by a fixed rule, against a plain picture of the units.
func TestHistory(t *testing.T) {
	for _, size := range []int{16384, 1000, 160, 32, 0} {
		history(t, New(size))
	}
}

// history goes on with a model for many steps.
func history(t *testing.T, m api.Model) {
	t.Helper()
	p := picture{}
	seed := uint64(88172645463325252)
	for i := range 20000 {
		seed ^= seed << 13
		seed ^= seed >> 7
		seed ^= seed << 17
		n := table[seed>>20%8] - int(seed>>24%31)
		at := (int(seed>>30%uint64(m.Words/32+4)) - 2) * 32
		if seed>>40%16 == 0 {
			at += 8
		}
		if seed>>44%2 == 0 && len(m.Live) > 0 {
			at = m.Live[seed>>48%uint64(len(m.Live))].At
		}
		if seed>>60%2 == 0 {
			m, p = stepAlloc(t, i, m, p, n, at)
		} else {
			m, p = stepFree(t, i, m, p, at)
		}
		if got, ok := draw(m); !ok || got != p || !May(m) {
			t.Fatalf("13.3: step %d: the model is %v", i, m)
		}
	}
}

// stepAlloc allocates in a model and in its picture.
func stepAlloc(t *testing.T, i int, m api.Model, p picture, n, at int) (api.Model, picture) {
	t.Helper()
	want, should := plainAlloc(m, p, n, at)
	got, ok := Alloc(m, n, at)
	if !same(got, want) || ok != should {
		t.Fatalf("13.1: step %d: Alloc(%v, %d, %d) returns %v, %t", i, m, n, at, got, ok)
	}
	next, k, accepted := Accepts(m, alloc(n, at, api.OK))
	if accepted != ok || ok && (k != 1 || !same(next, got)) || !ok && (k != 0 || !same(next, m)) {
		t.Fatalf("13.2: step %d: Accepts of Alloc(%v, %d, %d) returns %v, %d, %t", i, m, n, at, next, k, accepted)
	}
	if !ok {
		return m, p
	}
	p.lay(m.Words, at, words(class(n)))
	return got, p
}

// stepFree frees in a model and in its picture.
func stepFree(t *testing.T, i int, m api.Model, p picture, at int) (api.Model, picture) {
	t.Helper()
	l, found := Find(m, at)
	u, lies := unit(at)
	if found != (lies && p[u] == 1) {
		t.Fatalf("13.1: step %d: Find(%v, %d) returns %v, %t", i, m, at, l, found)
	}
	got, e := Free(m, at)
	if (e == api.OK) != found || !found && (e != api.ErrNone || !zero(got)) {
		t.Fatalf("13.1: step %d: Free(%v, %d) returns %v, %d", i, m, at, got, e)
	}
	next, k, accepted := Accepts(m, free(at, e))
	if k != 1 || !accepted || found && !same(next, got) || !found && !same(next, m) {
		t.Fatalf("13.2: step %d: Accepts of Free(%v, %d) returns %v, %d, %t", i, m, at, next, k, accepted)
	}
	if !found {
		return m, p
	}
	clear(p[u : u+words(l.Class)/32])
	return got, p
}

// calls are calls of all functions that return a model: each makes one of the model that it is given.
func calls(l []api.Deed) []func(m api.Model) api.Model {
	all := []func(m api.Model) api.Model{
		func(m api.Model) api.Model { next, _, _ := Accepts(m); return next },
		func(m api.Model) api.Model { next, _, _ := Accepts(m, l...); return next },
		func(m api.Model) api.Model {
			next, _, _ := Accepts(m, free(0, api.OK), alloc(1, 0, api.OK))
			return next
		},
		func(m api.Model) api.Model { next, _, _ := Accepts(m, api.Deed{}); return next },
		func(m api.Model) api.Model { next, _ := Alloc(m, 4096, 8192); return next },
		func(m api.Model) api.Model { next, _ := Alloc(m, 0, 0); return next },
		func(m api.Model) api.Model { next, _ := Free(m, 31); return next },
	}
	for _, at := range []int{0, 32, 64, 96, 16352} {
		all = append(all, func(m api.Model) api.Model { next, _ := Alloc(m, 1, at); return next })
		all = append(all, func(m api.Model) api.Model { next, _ := Free(m, at); return next })
		all = append(all, func(m api.Model) api.Model { next, _, _ := Accepts(m, free(at, api.OK)); return next })
		all = append(all, func(m api.Model) api.Model { next, _, _ := Accepts(m, alloc(1, at, api.OK)); return next })
	}
	return all
}

// someDeeds are a piece of a longer list, and this list.
func someDeeds() ([]api.Deed, []api.Deed) {
	whole := []api.Deed{{Kind: -9}, alloc(1, 0, api.ErrFull), free(0, api.OK), alloc(32, 0, api.OK), free(16, api.ErrNone), free(32, api.OK), {Kind: -8}, {Kind: -8}}
	return whole[1:6], whole
}

func TestArgumentsStay(t *testing.T) {
	l, wholeDeeds := someDeeds()
	beforeDeeds := slices.Clone(wholeDeeds)
	all := calls(l)
	for _, given := range models() {
		m, whole := within(given)
		before := slices.Clone(whole)
		for i, do := range all {
			got := do(m)
			if !slices.Equal(whole, before) || !slices.Equal(wholeDeeds, beforeDeeds) {
				t.Fatalf("R4, R5: call %d changes %v to %v, or the deeds to %v", i, before, whole, wholeDeeds)
			}
			spoil(got)
			_ = append(got.Live, api.Live{At: -6})
			if !slices.Equal(whole, before) || !slices.Equal(wholeDeeds, beforeDeeds) {
				t.Fatalf("R4: what call %d returns shares memory with its model %v", i, before)
			}
		}
		May(m)
		Find(m, 0)
		if !slices.Equal(whole, before) {
			t.Fatalf("R4: May or Find changes %v to %v", before, whole)
		}
	}
}

// TestArgumentsAreNotKept spoils a model and deeds behind a call: what the call returned must not show it.
func TestArgumentsAreNotKept(t *testing.T) {
	for _, given := range models() {
		for i := range calls(nil) {
			l, wholeDeeds := someDeeds()
			m, whole := within(given)
			got := calls(l)[i](m)
			kept := slices.Clone(got.Live)
			for i := range whole {
				whole[i] = api.Live{At: -5}
			}
			for i := range wholeDeeds {
				wholeDeeds[i] = api.Deed{Kind: -5}
			}
			if !slices.Equal(got.Live, kept) {
				t.Fatalf("R4: what call %d returned for %v is now %v", i, given, got)
			}
		}
	}
}

// TestResultsAreApart makes several results of one model, and grows each of them: none shows it of another.
func TestResultsAreApart(t *testing.T) {
	for _, given := range models() {
		m, _ := within(given)
		all, kept := []api.Model{}, [][]api.Live{}
		for _, do := range calls(nil) {
			all = append(all, do(m), do(m))
		}
		for _, x := range all {
			kept = append(kept, slices.Clone(x.Live))
		}
		for i, x := range all {
			_ = append(x.Live, api.Live{At: -6})
			spoil(x)
			for j := i + 1; j < len(all); j++ {
				if !slices.Equal(all[j].Live, kept[j]) {
					t.Fatalf("R4: result %d for %v is now %v, not %v", j, given, all[j], kept[j])
				}
			}
		}
		if !same(m, given) {
			t.Fatalf("R4: %v is now %v", given, m)
		}
	}
}

// TestErrorsChangeNothing goes on with a model behind calls that returned an error or false.
func TestErrorsChangeNothing(t *testing.T) {
	m := of(128, api.Live{At: 32, Owner: 1}, call(64, 0))
	for _, at := range []int{32, 64, 16, -32, 128, least, most} {
		if got, ok := Alloc(m, 1, at); !zero(got) || ok {
			t.Errorf("13.1, R3: Alloc at %d returns %v, %t", at, got, ok)
		}
		if got, e := Free(m, at+1); !zero(got) || e != api.ErrNone {
			t.Errorf("13.1, R3: Free of %d returns %v, %d", at+1, got, e)
		}
		if got, n, ok := Accepts(m, alloc(1, at, api.OK)); !same(got, m) || n != 0 || ok {
			t.Errorf("13.2: Accepts of an Alloc at %d returns %v, %d, %t", at, got, n, ok)
		}
		if got, ok := Alloc(m, 1, 96); !same(got, of(128, api.Live{At: 32, Owner: 1}, call(64, 0), call(96, 0))) || !ok {
			t.Errorf("R5: behind the error for %d, Alloc at 96 returns %v, %t", at, got, ok)
		}
	}
	if !same(m, of(128, api.Live{At: 32, Owner: 1}, call(64, 0))) {
		t.Errorf("R5: the model is %v", m)
	}
}

// TestAnswersRepeat asks again: nothing is kept from call to call.
func TestAnswersRepeat(t *testing.T) {
	for range 3 {
		m := New(96)
		m, ok := Alloc(m, 64, 32)
		if !same(m, of(96, call(32, 1))) || !ok {
			t.Errorf("R1: Alloc returns %v, %t", m, ok)
		}
		for range 3 {
			if next, e := Free(m, 32); !same(next, of(96)) || e != api.OK {
				t.Errorf("R1: Free returns %v, %d", next, e)
			}
			if next, n, ok := Accepts(m, alloc(1, 0, api.OK), free(64, api.OK)); !same(next, of(96, call(0, 0), call(32, 1))) || n != 1 || ok {
				t.Errorf("R1: Accepts returns %v, %d, %t", next, n, ok)
			}
			if l, ok := Find(m, 32); l != call(32, 1) || !ok || !May(m) {
				t.Errorf("R1: Find returns %v, %t", l, ok)
			}
		}
	}
}

// TestOtherModels asks nothing of models that are not valid but that the calls return, and leave them alone.
func TestOtherModels(t *testing.T) {
	l, _ := someDeeds()
	others := []api.Model{}
	for _, n := range far() {
		others = append(others, of(n), of(n, call(0, 0)), of(96, call(n, 0)), of(96, call(0, n)), of(96, api.Live{Owner: n}), of(n, api.Live{At: n, Class: n, Owner: n}), of(96, call(n, n), call(0, 1), call(32, 0)))
	}
	for _, n := range []int{least, -1, 0, 64, 16384, most} {
		others = append(others, of(n, slices.Repeat([]api.Live{call(0, 0)}, 1000)...), of(n, slices.Repeat([]api.Live{call(most, 7), call(32, 1), call(least, -1)}, 1000)...))
		others = append(others, of(n, call(96, 0), call(64, 0), call(32, 0), call(0, 0)))
	}
	for _, other := range others {
		m, whole := within(other)
		before := slices.Clone(whole)
		for _, do := range calls(l) {
			spoil(do(m))
		}
		for _, at := range append(far(), 0, 32, 64) {
			for _, n := range sizes() {
				Alloc(m, n, at)
			}
			Free(m, at)
			Find(m, at)
			Accepts(m, alloc(1, at, api.OK), free(at, api.OK), free(at, api.ErrNone))
		}
		May(m)
		if !slices.Equal(whole, before) {
			t.Fatalf("R4: the calls change %v to %v", before, whole)
		}
	}
}
