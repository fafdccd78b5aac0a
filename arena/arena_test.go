package arena

import (
	"math"
	"math/big"
	"slices"
	"testing"

	"rickyard/api"
)

const (
	least = math.MinInt64
	most  = math.MaxInt64
)

// addresses are those at both ends of an arena of that many words, just beyond, and far out.
func addresses(words int) []int {
	return []int{
		least, least + 1, -1 << 62, -words - 1, -words, -64, -2, -1,
		0, 1, 2, 7, words / 2, words - 2, words - 1, words, words + 1, 2 * words,
		1 << 32, 1<<61 - 1, 1 << 62, most - words, most - words + 1, most - 1, most,
	}
}

// exist reports whether an arena of that many words has the n words from at on; no sum here can wrap round.
func exist(words, at, n int) bool {
	end := new(big.Int).Add(big.NewInt(int64(at)), big.NewInt(int64(n)))
	return at >= 0 && n >= 0 && end.Cmp(big.NewInt(int64(words))) <= 0
}

// code is what a call must return if it may do its work only on words that exist.
func code(ok bool) api.Errno {
	if ok {
		return api.OK
	}
	return api.ErrArg
}

// pattern are words that differ from each other, from 0, and from their address.
func pattern(words int) []uint64 {
	list := make([]uint64, words)
	for i := range list {
		list[i] = 0xf00d<<48 | uint64(i)*2654435761 + 1
	}
	return list
}

// patterned returns an arena that holds the pattern.
func patterned(t *testing.T, pages int) *Arena {
	t.Helper()
	a := New(pages)
	if a == nil {
		t.Fatalf("3.1: New(%d) is nil", pages)
	}
	for i, w := range pattern(a.Len()) {
		if e := a.Store(i, w); e != api.OK {
			t.Fatalf("3.1: Store(%d) returns %d", i, e)
		}
	}
	return a
}

// all returns the words of an arena, read one by one.
func all(t *testing.T, a *Arena) []uint64 {
	t.Helper()
	list := []uint64{}
	for i := range a.Len() {
		w, e := a.Load(i)
		if e != api.OK {
			t.Fatalf("3.1: Load(%d) returns %d", i, e)
		}
		list = append(list, w)
	}
	return list
}

func TestNew(t *testing.T) {
	for pages := 1; pages <= 256; pages++ {
		a := New(pages)
		if a == nil {
			t.Fatalf("3.1: New(%d) is nil", pages)
		}
		if a.Pages() != pages {
			t.Errorf("3.1: Pages of New(%d) is %d", pages, a.Pages())
		}
		if a.Len() != 64*pages {
			t.Errorf("3.1: Len of New(%d) is %d", pages, a.Len())
		}
	}
}

func TestNewOfWrongPages(t *testing.T) {
	for _, pages := range []int{0, -1, -2, -256, 257, 258, 512, 1 << 26, 1 << 32, 1<<32 + 1, 1 << 58, 1<<58 + 1, 1 << 62, least, least + 1, most - 1, most} {
		if New(pages) != nil {
			t.Errorf("3.1: New(%d) is not nil", pages)
		}
	}
}

func TestNewWordsAreNought(t *testing.T) {
	for _, pages := range []int{1, 2, 255, 256} {
		// An arena that was there before must not show in the next one.
		patterned(t, pages)
		for i, w := range all(t, New(pages)) {
			if w != 0 {
				t.Errorf("3.1: word %d of New(%d) is %d", i, pages, w)
			}
		}
	}
}

func TestExamples(t *testing.T) {
	if n := New(1).Len(); n != 64 {
		t.Errorf("3.1: Len of New(1) is %d", n)
	}
	if n := New(256).Pages(); n != 256 {
		t.Errorf("3.1: Pages of New(256) is %d", n)
	}
	if n := New(2).Len(); n != 128 {
		t.Errorf("3.1: Len of New(2) is %d", n)
	}
	if w, e := New(1).Load(64); w != 0 || e != api.ErrArg {
		t.Errorf("3.1: Load(64) of New(1) is %d, %d", w, e)
	}
	if e := New(1).Store(-1, 1); e != api.ErrArg {
		t.Errorf("3.1: Store(-1, 1) returns %d", e)
	}
	if e := New(1).Copy(0, 65, 0); e != api.ErrArg {
		t.Errorf("3.1: Copy(0, 65, 0) of New(1) returns %d", e)
	}
	if e := New(1).Fill(64, 1, 0); e != api.ErrArg {
		t.Errorf("3.1: Fill(64, 1, 0) of New(1) returns %d", e)
	}
	if l, e := New(1).Slice(0, 64); e != api.OK || !slices.Equal(l, make([]uint64, 64)) {
		t.Errorf("3.1: Slice(0, 64) of New(1) is %d, %d", l, e)
	}
}

func TestStoreAndLoad(t *testing.T) {
	for _, pages := range []int{1, 3, 256} {
		want := pattern(64 * pages)
		if got := all(t, patterned(t, pages)); !slices.Equal(got, want) {
			t.Errorf("3.1: what was stored into %d pages is not loaded", pages)
		}
	}
	a := New(1)
	for _, w := range []uint64{1, 0, 1 << 63, math.MaxUint64, 0x7ff0000000000001, 1 << 32} {
		a.Store(5, w)
		if got, e := a.Load(5); got != w || e != api.OK {
			t.Errorf("3.1: Load after Store(5, %d) is %d, %d", w, got, e)
		}
	}
}

func TestStoreLeavesOtherWords(t *testing.T) {
	for _, at := range []int{0, 1, 63, 64, 127} {
		a := patterned(t, 2)
		want := pattern(128)
		want[at] = 42
		if e := a.Store(at, 42); e != api.OK || !slices.Equal(all(t, a), want) {
			t.Errorf("3.1, 3.2: Store(%d) returns %d, or touches other words", at, e)
		}
	}
}

func TestLoadAndStoreAtTheEnds(t *testing.T) {
	for _, pages := range []int{1, 2, 256} {
		a := patterned(t, pages)
		words := 64 * pages
		want := pattern(words)
		for _, at := range addresses(words) {
			ok := at >= 0 && at < words
			w, e := a.Load(at)
			if e != code(ok) || ok && w != want[at] {
				t.Errorf("3.1: Load(%d) of %d words is %d, %d", at, words, w, e)
			}
			if !ok && w != 0 {
				t.Errorf("R3: Load(%d) of %d words is %d beside its error", at, words, w)
			}
			if e := a.Store(at, 42); e != code(ok) {
				t.Errorf("3.1: Store(%d) of %d words returns %d", at, words, e)
			}
			if ok {
				want[at] = 42
			}
			if !slices.Equal(all(t, a), want) {
				t.Fatalf("3.2, R5: after Store(%d) in %d words", at, words)
			}
		}
	}
}

func TestSlice(t *testing.T) {
	for _, pages := range []int{1, 2, 256} {
		a := patterned(t, pages)
		words := 64 * pages
		want := pattern(words)
		for _, at := range addresses(words) {
			for _, n := range addresses(words) {
				ok := exist(words, at, n)
				got, e := a.Slice(at, n)
				if e != code(ok) || ok && !slices.Equal(got, want[at:at+n]) {
					t.Errorf("3.1: Slice(%d, %d) of %d words has %d, and returns %d", at, n, words, len(got), e)
				}
				if !ok && len(got) != 0 {
					t.Errorf("R3: Slice(%d, %d) of %d words has %d beside its error", at, n, words, len(got))
				}
			}
		}
		if !slices.Equal(all(t, a), want) {
			t.Errorf("3.2: Slice changes one of %d words", words)
		}
	}
}

func TestFill(t *testing.T) {
	for _, pages := range []int{1, 2} {
		words := 64 * pages
		for _, at := range addresses(words) {
			for _, n := range addresses(words) {
				a := patterned(t, pages)
				want := pattern(words)
				ok := exist(words, at, n)
				if ok {
					for i := range n {
						want[at+i] = 42
					}
				}
				if e := a.Fill(at, n, 42); e != code(ok) {
					t.Errorf("3.1: Fill(%d, %d) of %d words returns %d", at, n, words, e)
				}
				if !slices.Equal(all(t, a), want) {
					t.Errorf("3.1, R5: wrong words after Fill(%d, %d) of %d", at, n, words)
				}
			}
		}
	}
}

func TestFillOfWholeArena(t *testing.T) {
	for _, w := range []uint64{math.MaxUint64, 0, 1 << 63} {
		a := patterned(t, 256)
		if e := a.Fill(0, 16384, w); e != api.OK {
			t.Errorf("3.1: Fill(0, 16384) returns %d", e)
		}
		if l := all(t, a); slices.Min(l) != w || slices.Max(l) != w {
			t.Errorf("3.1: wrong words after Fill(0, 16384, %d)", w)
		}
	}
}

// tryCopy holds a Copy against one that puts its words aside first.
func tryCopy(t *testing.T, pages, to, from, n int) {
	t.Helper()
	a := patterned(t, pages)
	words := 64 * pages
	want := pattern(words)
	ok := exist(words, to, n) && exist(words, from, n)
	if ok {
		aside := slices.Clone(want[from : from+n])
		for i, w := range aside {
			want[to+i] = w
		}
	}
	if e := a.Copy(to, from, n); e != code(ok) {
		t.Errorf("3.1: Copy(%d, %d, %d) of %d words returns %d", to, from, n, words, e)
	}
	if !slices.Equal(all(t, a), want) {
		t.Errorf("3.1, R5: wrong words after Copy(%d, %d, %d) of %d", to, from, n, words)
	}
}

func TestCopyAtTheEnds(t *testing.T) {
	for _, to := range addresses(64) {
		for _, from := range addresses(64) {
			for _, n := range addresses(64) {
				tryCopy(t, 1, to, from, n)
			}
		}
	}
}

func TestCopyOverlaps(t *testing.T) {
	for to := 0; to <= 12; to++ {
		for from := 0; from <= 12; from++ {
			for _, n := range []int{0, 1, 2, 3, 5, 12, 51, 52} {
				tryCopy(t, 1, to, from, n)
			}
		}
	}
}

func TestCopyOfGreatRanges(t *testing.T) {
	for _, c := range []struct{ to, from, n int }{
		{0, 0, 16384}, {1, 0, 16383}, {0, 1, 16383}, {8192, 0, 8192}, {0, 8192, 8192}, {64, 0, 16320}, {0, 64, 16320}, {5000, 5000, 300},
		{1, 0, 16384}, {0, 1, 16384}, {8193, 0, 8192}, {0, 8193, 8192}, {0, 0, 16385},
	} {
		tryCopy(t, 256, c.to, c.from, c.n)
	}
}

func TestNoWords(t *testing.T) {
	a := patterned(t, 1)
	for at := 0; at <= 64; at++ {
		if l, e := a.Slice(at, 0); len(l) != 0 || e != api.OK {
			t.Errorf("3.1: Slice(%d, 0) is %d, %d", at, l, e)
		}
		if e := a.Fill(at, 0, 42); e != api.OK {
			t.Errorf("3.1: Fill(%d, 0) returns %d", at, e)
		}
		for from := 0; from <= 64; from++ {
			if e := a.Copy(at, from, 0); e != api.OK {
				t.Errorf("3.1: Copy(%d, %d, 0) returns %d", at, from, e)
			}
		}
	}
	if !slices.Equal(all(t, a), pattern(64)) {
		t.Error("3.2: a call on no words changes words")
	}
}

func TestCopyThereAndBack(t *testing.T) {
	const n = 20
	for from := 0; from+n <= 128; from++ {
		for to := 0; to+n <= 128; to++ {
			a := patterned(t, 2)
			want, _ := a.Slice(from, n)
			there := a.Copy(to, from, n)
			// Words that are gone from here can only come from there.
			if to >= from+n || from >= to+n {
				a.Fill(from, n, 0)
			}
			if back := a.Copy(from, to, n); there != api.OK || back != api.OK {
				t.Fatalf("3.2: words from %d cannot be copied to %d and back: %d, %d", from, to, there, back)
			}
			if got, _ := a.Slice(from, n); !slices.Equal(got, want) {
				t.Errorf("3.2: words from %d are others after a copy to %d and back", from, to)
			}
		}
	}
}

// TestHistory holds many calls, chosen by a fixed rule, against a plain list of words.
func TestHistory(t *testing.T) {
	a := New(2)
	want := make([]uint64, 128)
	seed := uint64(88172645463325252)
	pick := func() int {
		seed ^= seed << 13
		seed ^= seed >> 7
		seed ^= seed << 17
		return int((seed>>20)%136) - 4
	}
	for step := range 20000 {
		at, from, n := pick(), pick(), pick()/2
		w := seed
		var e api.Errno
		ok := false
		switch step % 3 {
		case 0:
			n = 1
			ok = exist(128, at, n)
			e = a.Store(at, w)
		case 1:
			ok = exist(128, at, n)
			e = a.Fill(at, n, w)
		case 2:
			ok = exist(128, at, n) && exist(128, from, n)
			e = a.Copy(at, from, n)
		}
		if ok && step%3 == 2 {
			copy(want[at:at+n], slices.Clone(want[from:from+n]))
		} else if ok {
			copy(want[at:at+n], slices.Repeat([]uint64{w}, n))
		}
		if got, _ := a.Slice(0, 128); e != code(ok) || !slices.Equal(got, want) {
			t.Fatalf("3.2: step %d with at %d, from %d, n %d returns %d, or leaves wrong words", step, at, from, n, e)
		}
	}
}

func TestSliceIsNewMemory(t *testing.T) {
	for _, c := range []struct{ at, n int }{{0, 64}, {0, 0}, {0, 1}, {0, 10}, {10, 20}, {54, 10}, {63, 1}, {64, 0}, {30, 0}} {
		a := patterned(t, 1)
		first, _ := a.Slice(c.at, c.n)
		second, _ := a.Slice(c.at, c.n)
		spoil(first)
		if !slices.Equal(all(t, a), pattern(64)) {
			t.Errorf("R4: Slice(%d, %d) is the arena's memory", c.at, c.n)
		}
		if !slices.Equal(second, pattern(64)[c.at:c.at+c.n]) {
			t.Errorf("R4: two results of Slice(%d, %d) share memory", c.at, c.n)
		}
		a.Fill(0, 64, 42)
		if !slices.Equal(second, pattern(64)[c.at:c.at+c.n]) {
			t.Errorf("R4: a later Fill shows in Slice(%d, %d)", c.at, c.n)
		}
	}
}

// spoil writes over a list, over its spare capacity, and over what an append gives.
func spoil(list []uint64) {
	_ = append(list, 42, 42, 42)
	whole := list[:cap(list)]
	for i := range whole {
		whole[i] = 42
	}
}

func TestArenasShareNothing(t *testing.T) {
	a := patterned(t, 2)
	b := New(2)
	if !slices.Equal(all(t, b), make([]uint64, 128)) {
		t.Error("R1: words of one arena show in another one")
	}
	b.Fill(0, 128, 42)
	b.Copy(0, 64, 64)
	b.Store(127, 7)
	if !slices.Equal(all(t, a), pattern(128)) {
		t.Error("R1: a call on one arena changes another one")
	}
}

func TestNil(t *testing.T) {
	var a *Arena
	if a.Pages() != 0 || a.Len() != 0 {
		t.Errorf("R6: a nil arena has %d pages, %d words", a.Pages(), a.Len())
	}
	for _, at := range addresses(64) {
		if w, e := a.Load(at); w != 0 || e != api.ErrNone {
			t.Errorf("R6: Load(%d) of nil is %d, %d", at, w, e)
		}
		if e := a.Store(at, 1); e != api.ErrNone {
			t.Errorf("R6: Store(%d) of nil returns %d", at, e)
		}
		for _, n := range addresses(64) {
			if l, e := a.Slice(at, n); len(l) != 0 || e != api.ErrNone {
				t.Errorf("R6: Slice(%d, %d) of nil is %d, %d", at, n, l, e)
			}
			if e := a.Fill(at, n, 1); e != api.ErrNone {
				t.Errorf("R6: Fill(%d, %d) of nil returns %d", at, n, e)
			}
			if e := a.Copy(at, n, 1); e != api.ErrNone {
				t.Errorf("R6: Copy(%d, %d, 1) of nil returns %d", at, n, e)
			}
			if e := a.Copy(at, 0, n); e != api.ErrNone {
				t.Errorf("R6: Copy(%d, 0, %d) of nil returns %d", at, n, e)
			}
		}
	}
}

// TestZeroArena tries an arena that New did not make: it has no words, and no call on it panics (R1).
func TestZeroArena(t *testing.T) {
	a := &Arena{}
	if a.Pages() != 0 || a.Len() != 0 {
		t.Errorf("R1: it has %d pages, %d words", a.Pages(), a.Len())
	}
	if _, e := a.Load(0); e != api.ErrArg {
		t.Errorf("3.1: Load(0) of no words returns %d", e)
	}
	if e := a.Store(0, 1); e != api.ErrArg {
		t.Errorf("3.1: Store(0) of no words returns %d", e)
	}
	if l, e := a.Slice(0, 0); len(l) != 0 || e != api.OK || a.Fill(0, 0, 1) != api.OK || a.Copy(0, 0, 0) != api.OK {
		t.Errorf("3.1: ranges of no words in an arena of no words are refused")
	}
}
