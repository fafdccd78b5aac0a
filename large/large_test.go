package large

import (
	"math"
	"slices"
	"testing"

	"rickyard/api"
)

const (
	least = math.MinInt64
	most  = math.MaxInt64
)

// pagesOf are the pages of a stack of each class by the table of chapter 8; none for the classes that are not large.
var pagesOf = []int{0, 0, 0, 0, 8, 16, 32, 64}

// list makes a list of stacks of their numbers: At, Class, At, Class, ..
func list(n ...int) []api.Big {
	l := []api.Big{}
	for i := 0; i+1 < len(n); i += 2 {
		l = append(l, api.Big{At: n[i], Class: n[i+1]})
	}
	return l
}

// classes are the numbers that are classes, those beside them, those that a narrow integer takes for a large class, and far ones.
func classes() []int {
	all := []int{least, least + 4, -1 << 62, -1<<32 + 4, -256 + 5, -64, -9, -8, -7, -6, -5, -4}
	for n := -3; n <= 12; n++ {
		all = append(all, n)
	}
	return append(all, 36, 64, 68, 128+4, 256+4, 256+7, 65536+5, 1<<31+6, 1<<32+4, 1<<32+7, 1<<62+4, most-3, most-1, most)
}

// addresses are those at both ends of the pages, those about the last place for each class, and far ones.
func addresses() []int {
	all := []int{
		least, least + 1, least + 64, -1 << 62, -1<<32 + 64, -16384, -4096, -512, -128, -65, -64, -63, -32, -2, -1,
		1 << 31, 1 << 32, 1<<32 + 64, 1 << 61, 1<<61 + 64, 1 << 62, most - 4095, most - 511, most - 127, most - 63, most - 1, most,
	}
	for _, at := range []int{0, 64, 512, 8192, 16384 - 4096, 16384 - 2048, 16384 - 1024, 16384 - 512, 16384, 32768, 65536} {
		for _, off := range []int{0, 1, 2, 8, 31, 32, 33, 63, 64, 65, 128} {
			all = append(all, at+off, at-off)
		}
	}
	slices.Sort(all)
	return slices.Compact(all)
}

// firstPage returns the first page and the number of pages of a stack that is valid. It adds nothing to At, so that nothing can wrap round.
func firstPage(b api.Big) (int, int, bool) {
	if b.Class < 4 || b.Class > 7 {
		return 0, 0, false
	}
	for page := 0; page+pagesOf[b.Class] <= 256; page++ {
		if b.At == 64*page {
			return page, pagesOf[b.Class], true
		}
	}
	return 0, 0, false
}

// picture is the plain picture of a list: for each page the stack that it belongs to, or no stack, whose class is 0.
type picture [256]api.Big

// put draws a stack.
func (p *picture) put(b api.Big) api.Errno {
	page, n, ok := firstPage(b)
	if !ok {
		return api.ErrArg
	}
	for _, x := range p[page : page+n] {
		if x.Class != 0 {
			return api.ErrTwice
		}
	}
	for i := range n {
		p[page+i] = b
	}
	return api.OK
}

// wipe removes a stack.
func (p *picture) wipe(b api.Big) {
	for i, x := range p {
		if x == b {
			p[i] = api.Big{}
		}
	}
}

// list reads the list off a picture.
func (p *picture) list() []api.Big {
	l := []api.Big{}
	for class := 4; class <= 7; class++ {
		for page, x := range p {
			if x.Class == class && x.At == 64*page {
				l = append(l, x)
			}
		}
	}
	return l
}

// words counts the words of all pages that belong to stacks.
func (p *picture) words() int {
	n := 0
	for _, x := range p {
		if x.Class != 0 {
			n += 64
		}
	}
	return n
}

// drawn draws a list; the second result is whether the list is valid.
func drawn(l []api.Big) (picture, bool) {
	var p picture
	for _, b := range l {
		if p.put(b) != api.OK {
			return p, false
		}
	}
	return p, slices.Equal(p.list(), l)
}

// few are all lists of stacks that lie among the width pages from page on.
func few(page, width int) [][]api.Big {
	var all [][]api.Big
	var grow func(p picture, from int)
	grow = func(p picture, from int) {
		all = append(all, p.list())
		for first := from; first < page+width; first++ {
			for class := 4; class <= 7; class++ {
				next := p
				if first+pagesOf[class] <= page+width && next.put(api.Big{At: 64 * first, Class: class}) == api.OK {
					grow(next, first+pagesOf[class])
				}
			}
		}
	}
	grow(picture{}, page)
	return all
}

// full are lists of all pages, or nearly all, in stacks of the classes in turn.
func full(turns ...int) []api.Big {
	var p picture
	for page, i := 0, 0; page < 256; i++ {
		class := turns[i%len(turns)]
		p.put(api.Big{At: 64 * page, Class: class})
		page += pagesOf[class]
	}
	return p.list()
}

// lists are those that the tests ask: all small ones at both ends of the pages, and long ones.
func lists() [][]api.Big {
	all := append(few(0, 18), few(256-18, 18)...)
	all = append(all, nil, full(4), full(5), full(6), full(7), full(4, 5, 6, 7), full(7, 6, 5, 4), full(6, 4, 7), full(5, 4, 4))
	return append(all, list(12288, 4, 512, 5, 4096, 6, 8192, 7), list(16384-4096, 7), list(4096, 4, 8192, 4, 0, 5, 6144, 5, 2048, 6))
}

// stacks are those to put into a list: valid ones, ones that are not, and those about the stacks of the list.
func stacks(l []api.Big) []api.Big {
	all := []api.Big{}
	for class := -1; class <= 8; class++ {
		for _, at := range addresses() {
			all = append(all, api.Big{At: at, Class: class})
		}
		for _, b := range l {
			for page := -64; page <= 64; page += 8 {
				all = append(all, api.Big{At: b.At + 64*page, Class: class})
			}
			for _, page := range []int{-17, -9, -7, -1, 1, 7, 9, 15, 17, 63} {
				all = append(all, api.Big{At: b.At + 64*page, Class: class})
			}
		}
	}
	return all
}

// spoil writes all over a list, its spare capacity included.
func spoil(l []api.Big) {
	l = l[:cap(l)]
	for i := range l {
		l[i] = api.Big{At: -7, Class: -7}
	}
}

func TestExamples(t *testing.T) {
	if Right(list(0, 3)) {
		t.Error("11.1: a list with a stack of class 3 is valid")
	}
	l, e := Put(nil, api.Big{At: 0, Class: 4})
	if !slices.Equal(l, list(0, 4)) || e != api.OK {
		t.Errorf("11.1: Put of At 0, Class 4 into an empty list returns %v, %d", l, e)
	}
	rest, at, e := Take(list(0, 4), 4)
	if len(rest) != 0 || at != 0 || e != api.OK {
		t.Errorf("11.1: Take of class 4 returns %v, %d, %d", rest, at, e)
	}
	if l, b, ok := Drop(nil); len(l) != 0 || b != (api.Big{}) || ok {
		t.Errorf("11.1: Drop of an empty list returns %v, %v, %t", l, b, ok)
	}
	if n := Words(nil); n != 0 {
		t.Errorf("11.1: Words of an empty list is %d", n)
	}
}

func TestRight(t *testing.T) {
	for _, l := range [][]api.Big{
		nil, {},
		list(0, 4), list(0, 5), list(0, 6), list(0, 7), list(64, 7), list(8192, 6),
		list(15872, 4), list(15360, 5), list(14336, 6), list(12288, 7),
		list(0, 4, 512, 4), list(0, 4, 512, 5), list(512, 4, 1024, 5, 2048, 6, 4096, 7),
		list(12288, 4, 8192, 5, 4096, 6, 0, 7), list(1024, 4, 0, 5), list(2048, 5, 0, 6), list(4096, 6, 0, 7),
		list(64, 4, 576, 4), list(0, 7, 4096, 7, 8192, 7, 12288, 7),
	} {
		if !Right(l) {
			t.Errorf("11.1: Right(%v) is false", l)
		}
	}
}

func TestRightOfWhatIsNotValid(t *testing.T) {
	for _, c := range []struct {
		why string
		l   []api.Big
	}{
		{"a stack is small", list(0, 3)},
		{"a stack is small", list(0, 0)},
		{"the first is small", list(0, 3, 512, 4)},
		{"it has no class", list(0, 8)},
		{"it has no class", list(0, -1)},
		{"the last has no class", list(0, 7, 8192, 8)},
		{"it has no class", list(0, least)},
		{"it has no class", list(0, most)},
		{"At is negative", list(-64, 4)},
		{"At is negative", list(-512, 4)},
		{"the first begins ahead of all pages", list(-4096, 4, 0, 4)},
		{"At is within a page", list(1, 4)},
		{"At is within a page", list(32, 4)},
		{"At is within a page", list(63, 4)},
		{"the second is within a page", list(0, 4, 544, 4)},
		{"it goes beyond the pages by one word", list(15873, 4)},
		{"it goes beyond the pages by one page", list(15936, 4)},
		{"it goes beyond the pages by one page", list(15424, 5)},
		{"it goes beyond the pages by one page", list(14400, 6)},
		{"it goes beyond the pages by one page", list(12352, 7)},
		{"it begins behind the pages", list(16384, 4)},
		{"the last goes beyond the pages", list(0, 4, 15936, 4)},
		{"it wraps round", list(most-63, 4)},
		{"it wraps round", list(most-511, 4)},
		{"it wraps round", list(most, 7)},
		{"it wraps round", list(least, 4)},
		{"they descend by class", list(0, 5, 4096, 4)},
		{"the last two descend by class", list(0, 4, 4096, 6, 8192, 5)},
		{"they descend by address", list(512, 4, 0, 4)},
		{"the last two descend by address", list(0, 4, 2048, 4, 1024, 4)},
		{"the last is lower than the first", list(512, 4, 1024, 4, 0, 4)},
		{"they are the same", list(0, 4, 0, 4)},
		{"the last two are the same", list(0, 4, 512, 4, 512, 4)},
		{"they have a page in common", list(0, 4, 448, 4)},
		{"they begin with the same page", list(4096, 4, 4096, 5)},
		{"the first is within the second", list(4096, 4, 3584, 5)},
		{"the first is at the end of the second", list(512, 4, 0, 5)},
		{"the first and the third have words in common", list(0, 4, 4096, 5, 0, 6)},
		{"the first and the last have a page in common", list(64*7, 4, 8192, 5, 10240, 6, 4096-64*57, 7)},
		{"the second is within the last", list(0, 4, 4096, 5, 8192, 6, 4096, 7)},
	} {
		if Right(c.l) {
			t.Errorf("11.1: Right(%v) is true, but %s", c.l, c.why)
		}
	}
}

func TestRightOfOneStack(t *testing.T) {
	for _, class := range classes() {
		for _, at := range addresses() {
			b := api.Big{At: at, Class: class}
			_, _, want := firstPage(b)
			if Right([]api.Big{b}) != want {
				t.Errorf("11.1, R7: Right of %v is %t", b, !want)
			}
		}
	}
	for class := 4; class <= 7; class++ {
		for at := -200; at <= 16600; at++ {
			want := at >= 0 && at%64 == 0 && at+64*pagesOf[class] <= 16384
			if Right(list(at, class)) != want {
				t.Errorf("11.1: Right of At %d, Class %d is %t", at, class, !want)
			}
		}
	}
}

// TestRightOfTwoStacks holds a stack in the middle and one that lies around it, on pages and between them, against the picture.
func TestRightOfTwoStacks(t *testing.T) {
	for a := 3; a <= 8; a++ {
		for b := 3; b <= 8; b++ {
			for at := 2048; at <= 14336; at += 32 {
				l := list(8192, a, at, b)
				if _, want := drawn(l); Right(l) != want {
					t.Fatalf("11.1: Right(%v) is %t", l, !want)
				}
			}
		}
	}
}

// TestRightOfThreeStacks holds lists in which any two of three may be out of order or have words in common.
func TestRightOfThreeStacks(t *testing.T) {
	var all []api.Big
	for class := 4; class <= 7; class++ {
		for _, at := range []int{0, 64, 512, 1024, 2048, 4096, 4160, 8192} {
			all = append(all, api.Big{At: at, Class: class})
		}
	}
	valid := 0
	for _, a := range all {
		for _, b := range all {
			for _, c := range all {
				l := []api.Big{a, b, c}
				_, want := drawn(l)
				if Right(l) != want {
					t.Fatalf("11.1: Right(%v) is %t", l, !want)
				}
				if want {
					valid++
				}
			}
		}
	}
	if valid < 100 {
		t.Errorf("only %d lists are valid", valid)
	}
}

func TestRightOfAllLists(t *testing.T) {
	for _, l := range lists() {
		if !Right(l) {
			t.Errorf("11.1: Right(%v) is false", l)
		}
		for i := range l {
			twice := slices.Insert(slices.Clone(l), i, l[i])
			if Right(twice) {
				t.Errorf("11.1: Right(%v) is true", twice)
			}
			if i == 0 {
				continue
			}
			turned := slices.Clone(l)
			turned[i-1], turned[i] = turned[i], turned[i-1]
			if Right(turned) {
				t.Errorf("11.1: Right(%v) is true", turned)
			}
		}
	}
}

func TestPut(t *testing.T) {
	l := list(512, 4, 2048, 4, 4096, 6)
	for _, c := range []struct {
		at, class int
		want      []api.Big
	}{
		{0, 4, list(0, 4, 512, 4, 2048, 4, 4096, 6)},
		{1024, 4, list(512, 4, 1024, 4, 2048, 4, 4096, 6)},
		{2560, 4, list(512, 4, 2048, 4, 2560, 4, 4096, 6)},
		{15872, 4, list(512, 4, 2048, 4, 15872, 4, 4096, 6)},
		{1024, 5, list(512, 4, 2048, 4, 1024, 5, 4096, 6)},
		{8192, 5, list(512, 4, 2048, 4, 8192, 5, 4096, 6)},
		{6144, 6, list(512, 4, 2048, 4, 4096, 6, 6144, 6)},
		{14336, 6, list(512, 4, 2048, 4, 4096, 6, 14336, 6)},
		{6144, 7, list(512, 4, 2048, 4, 4096, 6, 6144, 7)},
		{12288, 7, list(512, 4, 2048, 4, 4096, 6, 12288, 7)},
	} {
		got, e := Put(l, api.Big{At: c.at, Class: c.class})
		if !slices.Equal(got, c.want) || e != api.OK {
			t.Errorf("11.1: Put of At %d, Class %d returns %v, %d", c.at, c.class, got, e)
		}
	}
	if got, e := Put(list(0, 5, 8192, 7), api.Big{At: 4096, Class: 4}); !slices.Equal(got, list(4096, 4, 0, 5, 8192, 7)) || e != api.OK {
		t.Errorf("11.1: Put of a class ahead of all returns %v, %d", got, e)
	}
}

func TestPutIntoNone(t *testing.T) {
	for _, none := range [][]api.Big{nil, {}} {
		for _, class := range classes() {
			for _, at := range addresses() {
				b := api.Big{At: at, Class: class}
				want, code := []api.Big{b}, api.OK
				if _, _, ok := firstPage(b); !ok {
					want, code = nil, api.ErrArg
				}
				if got, e := Put(none, b); !slices.Equal(got, want) || e != code {
					t.Errorf("11.1, R3, R7: Put(%v) into an empty list returns %v, %d", b, got, e)
				}
			}
		}
	}
}

func TestPutOfWrongStacks(t *testing.T) {
	l := list(512, 4, 2048, 4, 4096, 6)
	for _, c := range []struct {
		at, class int
		want      api.Errno
	}{
		{512, 4, api.ErrTwice}, {448, 4, api.ErrTwice}, {576, 4, api.ErrTwice}, {64, 4, api.ErrTwice}, {960, 4, api.ErrTwice},
		{512, 5, api.ErrTwice}, {0, 5, api.ErrTwice}, {0, 7, api.ErrTwice}, {64, 7, api.ErrTwice}, {2048, 6, api.ErrTwice},
		{5120, 4, api.ErrTwice}, {4096, 4, api.ErrTwice}, {6080, 4, api.ErrTwice}, {3648, 4, api.ErrTwice}, {4096, 7, api.ErrTwice},
		// These are not valid, and lie where a stack of the list is.
		{512, 3, api.ErrArg}, {512, 8, api.ErrArg}, {512, 0, api.ErrArg}, {512, -1, api.ErrArg}, {513, 4, api.ErrArg}, {544, 4, api.ErrArg},
		{4097, 6, api.ErrArg}, {-64, 7, api.ErrArg}, {-64, 6, api.ErrArg}, {4096, most, api.ErrArg}, {512, least, api.ErrArg},
		{15936, 4, api.ErrArg}, {15424, 5, api.ErrArg}, {14400, 6, api.ErrArg}, {12352, 7, api.ErrArg}, {16384, 4, api.ErrArg},
		{least, 4, api.ErrArg}, {most, 4, api.ErrArg}, {most - 63, 4, api.ErrArg}, {most - 511, 4, api.ErrArg}, {least, 8, api.ErrArg}, {most, least, api.ErrArg},
	} {
		if got, e := Put(l, api.Big{At: c.at, Class: c.class}); e != c.want || len(got) != 0 {
			t.Errorf("11.1, R2, R3: Put of At %d, Class %d returns %v, %d, not %d", c.at, c.class, got, e, c.want)
		}
	}
	end := list(15872, 4, 8192, 7)
	for _, b := range []api.Big{{At: 15872, Class: 5}, {At: 15936, Class: 4}, {At: 8256, Class: 8}, {At: 8200, Class: 4}, {At: 15872, Class: 7}} {
		if got, e := Put(end, b); e != api.ErrArg || len(got) != 0 {
			t.Errorf("11.1, R2: Put of %v, which is not valid, returns %v, %d", b, got, e)
		}
	}
}

func TestPutIntoAllLists(t *testing.T) {
	for _, l := range lists() {
		p, _ := drawn(l)
		for _, b := range stacks(l) {
			next := p
			var want []api.Big
			code := next.put(b)
			if code == api.OK {
				want = next.list()
			}
			got, e := Put(l, b)
			if !slices.Equal(got, want) || e != code {
				t.Fatalf("11.1, R2, R3: Put(%v, %v) returns %v, %d, not %v, %d", l, b, got, e, want, code)
			}
			if e == api.OK && !Right(got) {
				t.Errorf("11.1: what Put(%v, %v) returns is not valid: %v", l, b, got)
			}
		}
	}
}

// TestPutInAnyOrder puts the stacks of a list from behind, and from the middle outwards.
func TestPutInAnyOrder(t *testing.T) {
	for _, want := range lists() {
		for _, step := range []int{1, 3, 5, 7} {
			left, l := slices.Clone(want), []api.Big(nil)
			for len(left) > 0 {
				i := (len(left)*step - 1) % len(left)
				next, e := Put(l, left[i])
				if e != api.OK {
					t.Fatalf("11.1: Put(%v, %v) returns %d", l, left[i], e)
				}
				l, left = next, slices.Delete(left, i, i+1)
			}
			if !slices.Equal(l, want) {
				t.Errorf("11.1: the stacks of %v, put one by one, are %v", want, l)
			}
		}
	}
}

func TestTake(t *testing.T) {
	l := list(512, 4, 2048, 4, 15872, 4, 4096, 6, 8192, 7)
	for _, c := range []struct {
		class int
		want  []api.Big
		at    int
		code  api.Errno
	}{
		{4, list(2048, 4, 15872, 4, 4096, 6, 8192, 7), 512, api.OK},
		{6, list(512, 4, 2048, 4, 15872, 4, 8192, 7), 4096, api.OK},
		{7, list(512, 4, 2048, 4, 15872, 4, 4096, 6), 8192, api.OK},
		{5, nil, 0, api.ErrNone},
		{3, nil, 0, api.ErrNone}, {0, nil, 0, api.ErrNone}, {8, nil, 0, api.ErrNone}, {-1, nil, 0, api.ErrNone}, {512, nil, 0, api.ErrNone},
		{least, nil, 0, api.ErrNone}, {most, nil, 0, api.ErrNone}, {least + 4, nil, 0, api.ErrNone}, {1<<32 + 4, nil, 0, api.ErrNone},
	} {
		got, at, e := Take(l, c.class)
		if !slices.Equal(got, c.want) || at != c.at || e != c.code {
			t.Errorf("11.1, R3: Take of class %d returns %v, %d, %d", c.class, got, at, e)
		}
	}
}

func TestTakeFromNone(t *testing.T) {
	for _, none := range [][]api.Big{nil, {}} {
		for _, class := range classes() {
			if got, at, e := Take(none, class); len(got) != 0 || at != 0 || e != api.ErrNone {
				t.Errorf("11.1, R3: Take of class %d from an empty list returns %v, %d, %d", class, got, at, e)
			}
		}
	}
}

func TestTakeFromAllLists(t *testing.T) {
	for _, l := range lists() {
		p, _ := drawn(l)
		for _, class := range classes() {
			// The lowest address of the class is looked up page by page.
			page := slices.IndexFunc(p[:], func(b api.Big) bool { return class != 0 && b.Class == class })
			want, low, code := []api.Big(nil), 0, api.ErrNone
			if page >= 0 {
				next := p
				next.wipe(p[page])
				want, low, code = next.list(), 64*page, api.OK
			}
			got, at, e := Take(l, class)
			if !slices.Equal(got, want) || at != low || e != code {
				t.Errorf("11.1, R3: Take(%v, %d) returns %v, %d, %d, not %v, %d, %d", l, class, got, at, e, want, low, code)
			}
			if !Right(got) {
				t.Errorf("11.1: what Take(%v, %d) returns is not valid: %v", l, class, got)
			}
		}
	}
}

func TestDrop(t *testing.T) {
	l := list(512, 4, 2048, 4, 0, 4)[:2]
	for _, c := range []struct {
		want []api.Big
		b    api.Big
		ok   bool
	}{
		{list(2048, 4), api.Big{At: 512, Class: 4}, true},
		{nil, api.Big{At: 2048, Class: 4}, true},
		{nil, api.Big{}, false},
		{nil, api.Big{}, false},
	} {
		got, b, ok := Drop(l)
		if !slices.Equal(got, c.want) || b != c.b || ok != c.ok {
			t.Errorf("11.1, R3: Drop(%v) returns %v, %v, %t", l, got, b, ok)
		}
		l = got
	}
	if got, b, ok := Drop([]api.Big{}); len(got) != 0 || b != (api.Big{}) || ok {
		t.Errorf("11.1, R3: Drop of an empty list returns %v, %v, %t", got, b, ok)
	}
}

func TestDropOfAllLists(t *testing.T) {
	for _, given := range lists() {
		l := given
		for i, want := range given {
			got, b, ok := Drop(l)
			if !slices.Equal(got, given[i+1:]) || b != want || !ok {
				t.Fatalf("11.1: Drop(%v) returns %v, %v, %t", l, got, b, ok)
			}
			if !Right(got) {
				t.Errorf("11.1: what Drop(%v) returns is not valid: %v", l, got)
			}
			l = got
		}
		if got, b, ok := Drop(l); len(got) != 0 || b != (api.Big{}) || ok {
			t.Errorf("11.1, R3: Drop when none is left of %v returns %v, %v, %t", given, got, b, ok)
		}
	}
}

func TestWords(t *testing.T) {
	for _, c := range []struct {
		l    []api.Big
		want int
	}{
		{nil, 0}, {[]api.Big{}, 0},
		{list(0, 4), 512}, {list(0, 5), 1024}, {list(0, 6), 2048}, {list(0, 7), 4096}, {list(15872, 4), 512},
		{list(0, 4, 512, 4), 1024}, {list(0, 4, 1024, 5, 2048, 6, 4096, 7), 7680}, {full(7), 16384}, {full(4), 16384},
	} {
		if n := Words(c.l); n != c.want {
			t.Errorf("11.1: Words(%v) is %d", c.l, n)
		}
	}
	for _, l := range lists() {
		p, _ := drawn(l)
		if n := Words(l); n != p.words() {
			t.Errorf("11.1: Words(%v) is %d, not %d", l, n, p.words())
		}
	}
}

// TestPutAndTaken takes the stacks of each class till none is left: each comes once.
func TestPutAndTaken(t *testing.T) {
	for _, given := range lists() {
		l := []api.Big(nil)
		for i := range given {
			next, e := Put(l, given[len(given)-1-i])
			if e != api.OK {
				t.Fatalf("11.2: Put(%v, %v) returns %d", l, given[len(given)-1-i], e)
			}
			l = next
		}
		taken := []api.Big{}
		for class := 4; class <= 7; {
			next, at, e := Take(l, class)
			if e != api.OK {
				class++
				continue
			}
			l, taken = next, append(taken, api.Big{At: at, Class: class})
			if len(taken) > len(given) {
				t.Fatalf("11.2: of %v there are taken %v", given, taken)
			}
		}
		if !slices.Equal(taken, given) || len(l) != 0 {
			t.Errorf("11.2: of %v there are taken %v, and %v is left", given, taken, l)
		}
	}
}

func TestPutAndTakenAtOnce(t *testing.T) {
	for _, l := range lists() {
		for _, b := range stacks(l) {
			with, e := Put(l, b)
			if e != api.OK {
				continue
			}
			if again, e := Put(with, b); e != api.ErrTwice || len(again) != 0 {
				t.Fatalf("11.2: a second Put of %v returns %v, %d", b, again, e)
			}
			n := 0
			for rest, at, e := Take(with, b.Class); e == api.OK; rest, at, e = Take(rest, b.Class) {
				if at == b.At {
					n++
				}
			}
			if n != 1 {
				t.Fatalf("11.2: of %v, %v is taken %d times", with, b, n)
			}
		}
	}
}

// TestHistory holds many Puts, Takes and Drops, chosen by a fixed rule, against a picture.
func TestHistory(t *testing.T) {
	l, p := []api.Big(nil), picture{}
	seed := uint64(88172645463325252)
	for i := range 20000 {
		seed ^= seed << 13
		seed ^= seed >> 7
		seed ^= seed << 17
		class := 4 + int(seed>>20%4)
		switch seed >> 30 % 8 {
		case 0:
			next, at, e := Take(l, class)
			if e == api.OK {
				l = next
				p.wipe(api.Big{At: at, Class: class})
			}
		case 1:
			next, b, ok := Drop(l)
			if ok {
				l = next
				p.wipe(b)
			}
		default:
			b := api.Big{At: 64 * int(seed>>40%258), Class: class}
			want := p.put(b)
			next, e := Put(l, b)
			if e != want {
				t.Fatalf("11.1: step %d: Put(%v, %v) returns %d, not %d", i, l, b, e, want)
			}
			if e == api.OK {
				l = next
			}
		}
		if !slices.Equal(l, p.list()) || !Right(l) || Words(l) != p.words() {
			t.Fatalf("11.1, 11.2: step %d: the list is %v, not %v, with %d words, not %d", i, l, p.list(), Words(l), p.words())
		}
	}
}

// within returns a list as a piece of a longer one, so that it has spare capacity, and the longer one.
func within(l []api.Big) ([]api.Big, []api.Big) {
	whole := list(-9, -9)
	whole = append(whole, l...)
	whole = append(whole, list(-8, -8, -8, -8, -8, -8)...)
	return whole[1 : 1+len(l)], whole
}

func TestArgumentsStay(t *testing.T) {
	for _, given := range lists() {
		l, whole := within(given)
		before := slices.Clone(whole)
		check := func(what string, got []api.Big) {
			t.Helper()
			if !slices.Equal(whole, before) {
				t.Fatalf("R4, R5: %s changes %v to %v", what, before, whole)
			}
			spoil(got)
			_ = append(got, api.Big{At: -6, Class: -6})
			if !slices.Equal(whole, before) {
				t.Fatalf("R4: what %s returns shares memory with its list %v", what, before)
			}
		}
		Right(l)
		Words(l)
		check("Right or Words", nil)
		got, _, _ := Drop(l)
		check("Drop", got)
		for _, class := range classes() {
			got, _, _ := Take(l, class)
			check("Take", got)
		}
		for _, b := range stacks(given) {
			got, _ := Put(l, b)
			check("Put", got)
		}
	}
}

// TestResultsStay spoils what later calls return: what an earlier one returned must not show it.
func TestResultsStay(t *testing.T) {
	for _, l := range lists() {
		x, _, ok := Drop(l)
		if !ok {
			continue
		}
		keep := slices.Clone(x)
		again, _, _ := Drop(l)
		spoil(again)
		with, _ := Put(x, l[0])
		if !slices.Equal(with, l) {
			t.Errorf("11.1: when %v is dropped from %v and put back it is %v", l[0], l, with)
		}
		for class := 4; class <= 7; class++ {
			y, _, _ := Take(with, class)
			z, _, _ := Take(with, class)
			kept := slices.Clone(y)
			spoil(z)
			if !slices.Equal(y, kept) || !slices.Equal(with, l) {
				t.Errorf("R4: what Take(%v, %d) returned is now %v", l, class, y)
			}
			spoil(y)
		}
		spoil(with)
		if !slices.Equal(x, keep) {
			t.Errorf("R4: what Drop(%v) returned is now %v", l, x)
		}
	}
}

// TestAnswersRepeat asks again: nothing is kept from call to call.
func TestAnswersRepeat(t *testing.T) {
	l := full(7, 6, 5, 4)[1:]
	for range 3 {
		with, e := Put(l, full(7, 6, 5, 4)[0])
		if !slices.Equal(with, full(7, 6, 5, 4)) || e != api.OK {
			t.Errorf("R1: Put returns %v, %d", with, e)
		}
		if _, at, e := Take(with, 4); at != with[0].At || e != api.OK {
			t.Errorf("R1: Take returns %d, %d", at, e)
		}
		if _, b, ok := Drop(with); b != with[0] || !ok {
			t.Errorf("R1: Drop returns %v, %t", b, ok)
		}
	}
}

// TestListsThatAreNotValid asks nothing but that the calls return, and leave their list alone.
func TestListsThatAreNotValid(t *testing.T) {
	wrong := [][]api.Big{
		list(0, 3), list(0, 4, 0, 4), list(512, 4, 0, 4), list(0, 5, 4096, 4), list(0, 4, 448, 4), list(0, 7, 64, 7, 128, 7),
		list(most, 7, least, 4, most, most), slices.Repeat(list(0, 4), 1000), slices.Repeat(list(most, most), 1000),
	}
	for _, class := range classes() {
		for _, at := range addresses() {
			wrong = append(wrong, list(at, class, 512, 4), list(512, 4, at, class))
		}
	}
	for _, l := range wrong {
		before := slices.Clone(l)
		Right(l)
		Words(l)
		Drop(l)
		for _, n := range []int{least, -64, -1, 0, 3, 4, 5, 7, 8, 512, 15872, 16384, most - 63, most} {
			Take(l, n)
			Put(l, api.Big{At: n, Class: 4})
			Put(l, api.Big{At: 512, Class: n})
		}
		if !slices.Equal(l, before) {
			t.Errorf("R1, R4: %v is %v after the calls", before, l)
		}
	}
}
