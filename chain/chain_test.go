package chain

import (
	"math"
	"slices"
	"testing"

	"rickyard/api"
	"rickyard/arena"
)

const (
	least    = math.MinInt64
	greatest = math.MaxInt64
)

// numbers are those at both ends of an arena of that many words, just beyond, and far out.
func numbers(words int) []int {
	return []int{
		least, least + 1, -1 << 62, -words - 1, -words, -2, -1,
		0, 1, 2, 31, words / 2, words - 2, words - 1, words, words + 1, words + 2, 2 * words,
		1<<32 - 1, 1 << 32, 1<<32 + 1, 1 << 62, greatest - words, greatest - 1, greatest,
	}
}

// patterned returns an arena whose words differ from each other; none of them is a head.
func patterned(t *testing.T, pages int) *arena.Arena {
	t.Helper()
	a := arena.New(pages)
	for at := range a.Len() {
		set(t, a, at, 0xf00d<<48|uint64(at)*2654435761+1)
	}
	return a
}

// set stores a word.
func set(t *testing.T, a *arena.Arena, at int, w uint64) {
	t.Helper()
	if e := a.Store(at, w); e != api.OK {
		t.Fatalf("3.1: Store(%d) returns %d", at, e)
	}
}

// all returns the words of an arena.
func all(t *testing.T, a *arena.Arena) []uint64 {
	t.Helper()
	list, e := a.Slice(0, a.Len())
	if e != api.OK {
		t.Fatalf("3.1: Slice of all words returns %d", e)
	}
	return list
}

// build pushes the addresses, the last of them first, so that the chain holds them in this order.
func build(t *testing.T, a *arena.Arena, addresses ...int) int {
	t.Helper()
	head := 0
	for _, at := range slices.Backward(addresses) {
		h, e := Push(a, head, at)
		if e != api.OK || h != at+1 {
			t.Fatalf("9.1: Push(%d, %d) is %d, %d", head, at, h, e)
		}
		head = h
	}
	return head
}

// push calls Push, and holds the result and all words against what they must be.
func push(t *testing.T, a *arena.Arena, head, at int) {
	t.Helper()
	words := all(t, a)
	want, code := 0, api.ErrArg
	if head >= 0 && head <= len(words) && at >= 0 && at < len(words) {
		want, code = at+1, api.OK
		words[at] = uint64(head)
	}
	if h, e := Push(a, head, at); h != want || e != code {
		t.Errorf("9.1: Push(%d, %d) in %d words is %d, %d, and not %d, %d", head, at, len(words), h, e, want, code)
	}
	if !slices.Equal(all(t, a), words) {
		t.Errorf("9.1, R5: after Push(%d, %d) in %d words, the words are not what they must be", head, at, len(words))
	}
}

// pop calls Pop, and holds the results against what they must be, and the words against what they were.
func pop(t *testing.T, a *arena.Arena, head, at, rest int, code api.Errno) {
	t.Helper()
	words := all(t, a)
	if x, r, e := Pop(a, head); x != at || r != rest || e != code {
		t.Errorf("9.1: Pop(%d) in %d words is %d, %d, %d, and not %d, %d, %d", head, len(words), x, r, e, at, rest, code)
	}
	if !slices.Equal(all(t, a), words) {
		t.Errorf("9.1: Pop(%d) in %d words changes a word", head, len(words))
	}
}

// walk calls Walk, and holds the results against what they must be, and the words against what they were.
func walk(t *testing.T, a *arena.Arena, head, most int, want []int, code api.Errno) {
	t.Helper()
	words := all(t, a)
	if l, e := Walk(a, head, most); !slices.Equal(l, want) || e != code {
		t.Errorf("9.2: Walk(%d, %d) in %d words is %d, %d, and not %d, %d", head, most, len(words), l, e, want, code)
	}
	if !slices.Equal(all(t, a), words) {
		t.Errorf("9.2: Walk(%d, %d) in %d words changes a word", head, most, len(words))
	}
}

func TestExamples(t *testing.T) {
	a := patterned(t, 2)
	if h, e := Push(a, 0, 64); h != 65 || e != api.OK {
		t.Errorf("9.1: Push(a, 0, 64) is %d, %d", h, e)
	}
	if w, e := a.Load(64); w != 0 || e != api.OK {
		t.Errorf("9.1: Push(a, 0, 64) sets the word 64 to %d", w)
	}
	if at, rest, e := Pop(a, 65); at != 64 || rest != 0 || e != api.OK {
		t.Errorf("9.1: Pop(a, 65) is %d, %d, %d", at, rest, e)
	}
	if l, e := Walk(a, 0, 1); len(l) != 0 || e != api.OK {
		t.Errorf("9.2: Walk of the head 0 is %d, %d", l, e)
	}
}

func TestPush(t *testing.T) {
	for _, pages := range []int{1, 2, 256} {
		a := patterned(t, pages)
		n := a.Len()
		for _, at := range []int{0, 1, n - 1} {
			for _, head := range []int{0, 1, 33, n - 1, n, 0} {
				push(t, a, head, at)
			}
		}
	}
}

func TestPushOfAllPairs(t *testing.T) {
	for _, pages := range []int{1, 3} {
		for _, head := range numbers(64 * pages) {
			for _, at := range numbers(64 * pages) {
				push(t, patterned(t, pages), head, at)
			}
		}
	}
}

func TestPushRefuses(t *testing.T) {
	a := patterned(t, 2)
	for _, at := range []int{-1, 128, 129, least, greatest} {
		if h, e := Push(a, 0, at); h != 0 || e != api.ErrArg {
			t.Errorf("9.1, R3: Push(0, %d) is %d, %d", at, h, e)
		}
	}
	for _, head := range []int{-1, 129, least, greatest} {
		if h, e := Push(a, head, 0); h != 0 || e != api.ErrArg {
			t.Errorf("9.1, R3: Push(%d, 0) is %d, %d", head, h, e)
		}
	}
	if !slices.Equal(all(t, a), all(t, patterned(t, 2))) {
		t.Error("R5: a Push that is refused changes a word")
	}
}

func TestPushOfWhatIsOnTheChain(t *testing.T) {
	a := patterned(t, 1)
	head := build(t, a, 8, 40, 63)
	// The word is set without a look at what it was: the chain comes back to this address now.
	push(t, a, head, 40)
	pop(t, a, 41, 40, 9, api.OK)
	pop(t, a, 9, 8, 41, api.OK)
	push(t, a, 41, 40)
	pop(t, a, 41, 40, 41, api.OK)
}

func TestPop(t *testing.T) {
	a := patterned(t, 2)
	set(t, a, 0, 0)
	set(t, a, 5, 1)
	set(t, a, 126, 128)
	set(t, a, 127, 127)
	pop(t, a, 1, 0, 0, api.OK)
	pop(t, a, 6, 5, 1, api.OK)
	pop(t, a, 127, 126, 128, api.OK)
	pop(t, a, 128, 127, 127, api.OK)
}

func TestPopOfEveryAddress(t *testing.T) {
	a := arena.New(256)
	for at := range a.Len() {
		set(t, a, at, uint64(a.Len()-at))
	}
	for at := range a.Len() {
		if x, rest, e := Pop(a, at+1); x != at || rest != a.Len()-at || e != api.OK {
			t.Errorf("9.1: Pop(%d) is %d, %d, %d", at+1, x, rest, e)
		}
	}
}

func TestPopRefuses(t *testing.T) {
	for _, pages := range []int{1, 2, 256} {
		a := arena.New(pages)
		n := a.Len()
		pop(t, a, 0, 0, 0, api.ErrNone)
		for _, head := range numbers(n) {
			if head < 0 || head > n {
				pop(t, a, head, 0, 0, api.ErrArg)
			}
		}
	}
}

// A head that is wrong is named ahead of a word that is wrong.
func TestPopNamesTheFirstError(t *testing.T) {
	a := patterned(t, 1)
	pop(t, a, 0, 0, 0, api.ErrNone)
	pop(t, a, -1, 0, 0, api.ErrArg)
	pop(t, a, 65, 0, 0, api.ErrArg)
	pop(t, a, least, 0, 0, api.ErrArg)
	pop(t, a, greatest, 0, 0, api.ErrArg)
	pop(t, a, 1, 0, 0, api.ErrForm)
	pop(t, a, 64, 0, 0, api.ErrForm)
}

func TestPopOfGreatWords(t *testing.T) {
	for _, pages := range []int{1, 2, 256} {
		a := arena.New(pages)
		n := a.Len()
		for _, at := range []int{0, 7, n - 1} {
			for _, w := range []uint64{0, 1, uint64(n) - 1, uint64(n)} {
				set(t, a, at, w)
				pop(t, a, at+1, at, int(w), api.OK)
			}
			for _, w := range []uint64{uint64(n) + 1, uint64(n) + 2, 1<<32 + 1, 1<<63 - 1, 1 << 63, 1<<63 + 1, 1<<64 - 2, 1<<64 - 1} {
				set(t, a, at, w)
				pop(t, a, at+1, 0, 0, api.ErrForm)
			}
		}
	}
}

func TestWalkOfNoAddresses(t *testing.T) {
	a := patterned(t, 1)
	for _, most := range numbers(64) {
		walk(t, a, 0, most, nil, api.OK)
	}
}

func TestWalk(t *testing.T) {
	a := patterned(t, 2)
	list := []int{64, 127, 0, 32, 96}
	head := build(t, a, list...)
	for _, most := range []int{5, 6, 7, 127, 128, 129, 1 << 32, greatest - 1, greatest} {
		walk(t, a, head, most, list, api.OK)
	}
	for _, most := range []int{4, 3, 1, 0, -1, -2, -5, -128, least, least + 1} {
		walk(t, a, head, most, nil, api.ErrForm)
	}
	// Each address is the first of what follows it.
	for i := range list {
		walk(t, a, list[i]+1, 5-i, list[i:], api.OK)
		walk(t, a, list[i]+1, 4-i, nil, api.ErrForm)
	}
}

func TestWalkOfAllWords(t *testing.T) {
	for _, pages := range []int{1, 256} {
		a := patterned(t, pages)
		n := a.Len()
		list := []int{}
		for i := range n {
			list = append(list, i*5%n)
		}
		head := build(t, a, list...)
		walk(t, a, head, n, list, api.OK)
		walk(t, a, head, n+1, list, api.OK)
		walk(t, a, head, greatest, list, api.OK)
		walk(t, a, head, n-1, nil, api.ErrForm)
	}
}

func TestWalkOfWrongHeads(t *testing.T) {
	for _, pages := range []int{1, 2, 256} {
		// A chain of one address for each head that is right; where it is wrong, most does not count.
		a := arena.New(pages)
		n := a.Len()
		for _, head := range numbers(n) {
			if head > 0 && head <= n {
				walk(t, a, head, 1, []int{head - 1}, api.OK)
				continue
			}
			for _, most := range []int{1, 0, -1, least, greatest} {
				if head != 0 {
					walk(t, a, head, most, nil, api.ErrArg)
				}
			}
		}
	}
}

func TestWalkOfGreatWords(t *testing.T) {
	list := []int{9, 70, 3, 127}
	for i := range list {
		for _, w := range []uint64{129, 130, 1<<32 + 1, 1<<63 - 1, 1 << 63, 1<<63 + 1, 1<<64 - 1} {
			a := arena.New(2)
			head := build(t, a, list...)
			set(t, a, list[i], w)
			for _, most := range []int{greatest, 128, 4, i + 1, i, 0, -1, least} {
				walk(t, a, head, most, nil, api.ErrForm)
			}
		}
	}
	// The word Len is a head still: that of the last address.
	a := arena.New(2)
	set(t, a, 9, 128)
	walk(t, a, 10, 2, []int{9, 127}, api.OK)
}

func TestWalkOfRings(t *testing.T) {
	list := []int{9, 70, 3, 127}
	for i := range list {
		a := arena.New(2)
		head := build(t, a, list...)
		set(t, a, 127, uint64(list[i]+1))
		for _, most := range []int{least, -1, 0, 1, 3, 4, 5, 127, 128, 129, 1000, 1 << 40, greatest - 1, greatest} {
			walk(t, a, head, most, nil, api.ErrForm)
		}
	}
	// A ring of all words has as many addresses as a chain without a ring may have.
	a := arena.New(1)
	for at := range 64 {
		set(t, a, at, uint64((at+1)%64+1))
	}
	for _, most := range []int{63, 64, 65, greatest} {
		walk(t, a, 1, most, nil, api.ErrForm)
	}
}

func TestWalkIsNewMemory(t *testing.T) {
	a := patterned(t, 2)
	list := []int{64, 127, 0, 32, 96}
	head := build(t, a, list...)
	words := all(t, a)
	first, _ := Walk(a, head, 5)
	second, _ := Walk(a, head, 5)
	for i := range cap(first) {
		first[:cap(first)][i] = -7
	}
	_ = append(first[:0], 1, 2, 3, 4, 5, 6, 7, 8, 9)
	if !slices.Equal(second, list) {
		t.Errorf("R4: another result is %d now", second)
	}
	if !slices.Equal(all(t, a), words) {
		t.Error("R4: a word is changed by way of the result")
	}
	walk(t, a, head, 5, list, api.OK)
	none, _ := Walk(a, 0, 5)
	for i := range cap(none) {
		none[:cap(none)][i] = -7
	}
	walk(t, a, head, 5, list, api.OK)
}

func TestLastPushedIsFirstPopped(t *testing.T) {
	a := patterned(t, 4)
	pushed := []int{0, 255, 64, 32, 96, 1, 254, 128}
	head := 0
	for _, at := range pushed {
		head, _ = Push(a, head, at)
	}
	for _, want := range slices.Backward(pushed) {
		at, rest, e := Pop(a, head)
		if at != want || e != api.OK {
			t.Errorf("9.3: Pop is %d, %d, and not %d", at, e, want)
		}
		head = rest
	}
	if head != 0 {
		t.Errorf("9.3: the head of no addresses is %d", head)
	}
}

// picture is what a chain must be: its addresses, with the first of them at the end.
type picture struct {
	head  int
	stack []int
}

// pushTo pushes an address to the chain and to its picture.
func (p *picture) pushTo(t *testing.T, a *arena.Arena, at int) {
	t.Helper()
	h, e := Push(a, p.head, at)
	if h != at+1 || e != api.OK {
		t.Fatalf("9.1: Push(%d, %d) is %d, %d", p.head, at, h, e)
	}
	p.head = h
	p.stack = append(p.stack, at)
}

// popFrom pops an address, which must be the one that was pushed last, and returns it.
func (p *picture) popFrom(t *testing.T, a *arena.Arena) (int, bool) {
	t.Helper()
	at, rest, e := Pop(a, p.head)
	if len(p.stack) == 0 {
		if at != 0 || rest != 0 || e != api.ErrNone {
			t.Fatalf("9.1: Pop(%d) of no addresses is %d, %d, %d", p.head, at, rest, e)
		}
		return 0, false
	}
	want := p.stack[len(p.stack)-1]
	if at != want || e != api.OK {
		t.Fatalf("9.3: Pop(%d) is %d, %d, and not %d", p.head, at, e, want)
	}
	p.head = rest
	p.stack = p.stack[:len(p.stack)-1]
	return at, true
}

// hold holds the chain against its picture.
func (p *picture) hold(t *testing.T, a *arena.Arena) {
	t.Helper()
	want := slices.Clone(p.stack)
	slices.Reverse(want)
	if l, e := Walk(a, p.head, len(want)); !slices.Equal(l, want) || e != api.OK {
		t.Fatalf("9.2: Walk(%d, %d) is %d, %d, and not %d", p.head, len(want), l, e, want)
	}
	if l, e := Walk(a, p.head, len(want)-1); len(want) > 0 && (len(l) != 0 || e != api.ErrForm) {
		t.Fatalf("9.2: Walk(%d, %d) is %d, %d", p.head, len(want)-1, l, e)
	}
}

func TestTwoChainsInTurns(t *testing.T) {
	a := patterned(t, 2)
	odd, even := &picture{}, &picture{}
	for i := range 20 {
		odd.pushTo(t, a, 2*i+1)
		even.pushTo(t, a, 126-2*i)
		if i%3 == 2 {
			odd.popFrom(t, a)
		}
		if i%5 == 4 {
			even.popFrom(t, a)
		}
		odd.hold(t, a)
		even.hold(t, a)
	}
	for odd.head != 0 || even.head != 0 {
		odd.popFrom(t, a)
		odd.hold(t, a)
		even.hold(t, a)
		even.popFrom(t, a)
		odd.hold(t, a)
		even.hold(t, a)
	}
}

func TestHistories(t *testing.T) {
	seed := uint64(88172645463325252)
	next := func(n int) int {
		seed ^= seed << 13
		seed ^= seed >> 7
		seed ^= seed << 17
		return int(seed % uint64(n))
	}
	for _, pages := range []int{1, 2, 8} {
		a := patterned(t, pages)
		free := []int{}
		for at := range a.Len() {
			free = append(free, at)
		}
		chains := []*picture{{}, {}, {}}
		for range 2000 {
			p := chains[next(len(chains))]
			if at, ok := 0, false; next(9) < 4 || len(free) == 0 {
				if at, ok = p.popFrom(t, a); ok {
					free = append(free, at)
				}
			} else {
				i := next(len(free))
				p.pushTo(t, a, free[i])
				free = slices.Delete(free, i, i+1)
			}
			for _, p := range chains {
				p.hold(t, a)
			}
		}
	}
}

func TestTwoArenas(t *testing.T) {
	a, b := patterned(t, 1), patterned(t, 1)
	head := build(t, a, 1, 2, 3)
	words := all(t, a)
	build(t, b, 3, 1, 2)
	if !slices.Equal(all(t, a), words) {
		t.Error("R1: a Push in one arena changes a word of another")
	}
	walk(t, a, head, 3, []int{1, 2, 3}, api.OK)
	walk(t, b, 4, 3, []int{3, 1, 2}, api.OK)
}

func TestNilArena(t *testing.T) {
	for _, n := range numbers(64) {
		for _, m := range numbers(64) {
			if h, e := Push(nil, n, m); h != 0 || e != api.ErrNone {
				t.Errorf("R6: Push(nil, %d, %d) is %d, %d", n, m, h, e)
			}
			if l, e := Walk(nil, n, m); len(l) != 0 || e != api.ErrNone {
				t.Errorf("R6: Walk(nil, %d, %d) is %d, %d", n, m, l, e)
			}
		}
		if at, rest, e := Pop(nil, n); at != 0 || rest != 0 || e != api.ErrNone {
			t.Errorf("R6: Pop(nil, %d) is %d, %d, %d", n, at, rest, e)
		}
	}
}

// An arena that New did not make has no words, and so no chain but the empty one.
func TestArenaWithoutWords(t *testing.T) {
	a := &arena.Arena{}
	for _, n := range numbers(64) {
		push(t, a, 0, n)
		push(t, a, n, 0)
		walk(t, a, 0, n, nil, api.OK)
		if n != 0 {
			pop(t, a, n, 0, 0, api.ErrArg)
			walk(t, a, n, 5, nil, api.ErrArg)
		}
	}
	pop(t, a, 0, 0, 0, api.ErrNone)
}
