package runs

import (
	"math"
	"math/big"
	"slices"
	"testing"

	"rickyard/api"
)

const (
	least = math.MinInt64
	most  = math.MaxInt64
)

// numbers are those at the edges of what a run may hold, just beyond, and far out.
func numbers() []int {
	return []int{
		least, least + 1, -1 << 62, -257, -256, -255, -2, -1,
		0, 1, 2, 3, 4, 5, 127, 128, 254, 255, 256, 257, 512,
		1 << 31, 1 << 32, 1 << 62, most - 256, most - 255, most - 1, most,
	}
}

// list makes a list of runs of their numbers: At, N, At, N, ..
func list(n ...int) []api.Run {
	l := []api.Run{}
	for i := 0; i+1 < len(n); i += 2 {
		l = append(l, api.Run{At: n[i], N: n[i+1]})
	}
	return l
}

// pages is the plain picture of a list: for each page whether it is in the list.
type pages [api.MaxPages]bool

// picture draws a list that is valid.
func picture(l []api.Run) pages {
	var p pages
	for _, r := range l {
		for i := r.At; i < r.At+r.N; i++ {
			p[i] = true
		}
	}
	return p
}

// runs reads the list off a picture.
func (p pages) runs() []api.Run {
	l := []api.Run{}
	for i, in := range p {
		switch {
		case !in:
		case i > 0 && p[i-1]:
			l[len(l)-1].N++
		default:
			l = append(l, api.Run{At: i, N: 1})
		}
	}
	return l
}

// small are all lists whose pages lie among the width pages from at on.
func small(at, width int) [][]api.Run {
	all := [][]api.Run{}
	for bits := range 1 << width {
		var p pages
		for i := range width {
			p[at+i] = bits>>i&1 == 1
		}
		all = append(all, p.runs())
	}
	return all
}

// lists are those that the tests ask: all small ones at both ends of the pages, and some long ones.
func lists() [][]api.Run {
	all := append(small(0, 8), small(api.MaxPages-8, 8)...)
	for _, step := range []int{2, 3, 5, 64} {
		var p pages
		for i := range p {
			p[i] = i%step != 0
		}
		all = append(all, p.runs())
	}
	return append(all, nil, []api.Run{}, list(0, 256), list(0, 255), list(1, 255), list(0, 127, 128, 128))
}

// beyond reports whether a run has no pages, or not all of them are pages; no sum here can wrap round.
func beyond(r api.Run, pages int) bool {
	end := new(big.Int).Add(big.NewInt(int64(r.At)), big.NewInt(int64(r.N)))
	return r.At < 0 || r.N < 1 || end.Cmp(big.NewInt(int64(pages))) > 0
}

// spoil writes all over a list, its spare capacity included.
func spoil(l []api.Run) {
	l = l[:cap(l)]
	for i := range l {
		l[i] = api.Run{At: -7, N: -7}
	}
}

func TestExamples(t *testing.T) {
	if Right(list(0, 5), 4) {
		t.Error("5.1: the run At 0, N 5 is valid for 4 pages")
	}
	if i, ok := Fit(list(0, 2, 4, 1, 6, 5), 3); i != 2 || !ok {
		t.Errorf("5.2: Fit of 3 is %d, %t", i, ok)
	}
	l, page, e := Take(list(0, 4, 8, 2), 2)
	if !slices.Equal(l, list(2, 2, 8, 2)) || page != 0 || e != api.OK {
		t.Errorf("5.2: Take of 2 returns %v, %d, %d", l, page, e)
	}
	l, e = Put(list(2, 2, 8, 2), api.Run{At: 4, N: 4})
	if !slices.Equal(l, list(2, 8)) || e != api.OK {
		t.Errorf("5.2: Put of (4, 4) returns %v, %d", l, e)
	}
	if Total(nil) != 0 || Total([]api.Run{}) != 0 {
		t.Error("5.3: Total of an empty list is not 0")
	}
	if n := Most(list(0, 2, 6, 5)); n != 5 {
		t.Errorf("5.3: Most is %d", n)
	}
	if !Has(list(4, 1), 4) || Has(list(4, 1), 5) {
		t.Error("5.3: page 4 is not in (4, 1), or page 5 is")
	}
}

func TestRight(t *testing.T) {
	for _, c := range []struct {
		l     []api.Run
		pages int
	}{
		{nil, 0}, {nil, 1}, {nil, 255}, {nil, 256}, {[]api.Run{}, 0}, {[]api.Run{}, 256},
		{list(0, 1), 1}, {list(0, 4), 4}, {list(3, 1), 4}, {list(1, 3), 4}, {list(0, 4), 5}, {list(0, 256), 256}, {list(255, 1), 256},
		{list(0, 1, 2, 1), 3}, {list(0, 1, 2, 2), 4}, {list(0, 127, 128, 128), 256}, {list(1, 1, 3, 1, 5, 1), 6}, {list(0, 1, 255, 1), 256},
	} {
		if !Right(c.l, c.pages) {
			t.Errorf("5.1: Right(%v, %d) is false", c.l, c.pages)
		}
	}
}

func TestRightOfWhatIsNotValid(t *testing.T) {
	for _, c := range []struct {
		why   string
		l     []api.Run
		pages int
	}{
		{"pages is negative", nil, -1},
		{"pages is the least number", nil, least},
		{"pages is beyond MaxPages", nil, 257},
		{"pages is beyond MaxPages", list(0, 1), 257},
		{"pages is beyond MaxPages", list(0, 257), 257},
		{"pages is the greatest number", list(0, 1), most},
		{"there is no page", list(0, 1), 0},
		{"it goes beyond pages by one", list(3, 2), 4},
		{"it begins at pages", list(4, 1), 4},
		{"it goes beyond MaxPages", list(0, 257), 256},
		{"the last one goes beyond pages", list(0, 1, 2, 3), 4},
		{"N is 0", list(0, 0), 4},
		{"N is 0, at pages", list(4, 0), 4},
		{"N is 0 in the second", list(0, 1, 2, 0), 4},
		{"N is negative", list(2, -1), 4},
		{"N is negative in the second", list(0, 1, 3, -1), 4},
		{"At is negative", list(-1, 2), 4},
		{"At is negative", list(-1, 1), 4},
		{"they are adjacent", list(0, 2, 2, 2), 4},
		{"the last two are adjacent", list(0, 1, 2, 1, 3, 1), 4},
		{"they have a page in common", list(0, 3, 2, 2), 4},
		{"the second is in the first", list(0, 4, 1, 1), 4},
		{"they are the same", list(1, 1, 1, 1), 4},
		{"they are out of order", list(2, 1, 0, 1), 4},
		{"the last two are out of order", list(0, 1, 4, 1, 2, 1), 8},
		{"the last one is before the first", list(2, 1, 4, 1, 0, 1), 8},
		{"they wrap round", list(1, most), 256},
		{"they wrap round", list(most, 1), 256},
		{"they wrap round", list(most, most), 256},
		{"they wrap round", list(least, least), 256},
		{"they wrap round", list(0, 1, 2, most, 4, 1), 256},
		{"they wrap round", list(0, 1, most, 2, 4, 1), 256},
	} {
		if Right(c.l, c.pages) {
			t.Errorf("5.1: Right(%v, %d) is true, but %s", c.l, c.pages, c.why)
		}
	}
}

func TestRightOfOneRun(t *testing.T) {
	for _, pages := range numbers() {
		for _, at := range numbers() {
			for _, n := range numbers() {
				r := api.Run{At: at, N: n}
				want := pages >= 0 && pages <= 256 && !beyond(r, pages)
				if Right([]api.Run{r}, pages) != want {
					t.Errorf("5.1: Right of %v for %d pages is %t", r, pages, !want)
				}
			}
		}
	}
}

func TestRightOfTwoRuns(t *testing.T) {
	for code := range 7 * 7 * 7 * 7 {
		a := api.Run{At: code%7 - 1, N: code/7%7 - 1}
		b := api.Run{At: code/49%7 - 1, N: code/343 - 1}
		for pages := range 6 {
			want := !beyond(a, pages) && !beyond(b, pages) && a.At+a.N < b.At
			if Right([]api.Run{a, b}, pages) != want {
				t.Errorf("5.1: Right of %v, %v for %d pages is %t", a, b, pages, !want)
			}
		}
	}
}

func TestRightOfAllLists(t *testing.T) {
	for _, l := range lists() {
		end := 0
		if len(l) > 0 {
			end = l[len(l)-1].At + l[len(l)-1].N
		}
		for _, pages := range []int{end - 1, end, end + 1, 255, 256} {
			if want := pages >= end && pages <= 256; Right(l, pages) != want {
				t.Errorf("5.1: Right(%v, %d) is %t", l, pages, !want)
			}
		}
	}
}

// counts are numbers of pages to ask a list for: the far ones, and those about the Ns of its runs.
func counts(l []api.Run) []int {
	all := numbers()
	for _, r := range l {
		all = append(all, r.N-1, r.N, r.N+1)
	}
	slices.Sort(all)
	return slices.Compact(all)
}

// first is what chapter 5 says of Fit.
func first(l []api.Run, n int) (int, bool) {
	i := slices.IndexFunc(l, func(r api.Run) bool { return n >= 1 && r.N >= n })
	return max(i, 0), i >= 0
}

func TestFit(t *testing.T) {
	l := list(0, 2, 4, 1, 6, 5, 20, 5)
	for _, c := range []struct {
		n, at int
		ok    bool
	}{{1, 0, true}, {2, 0, true}, {3, 2, true}, {4, 2, true}, {5, 2, true}, {6, 0, false}, {0, 0, false}, {-1, 0, false}, {least, 0, false}, {most, 0, false}} {
		if i, ok := Fit(l, c.n); i != c.at || ok != c.ok {
			t.Errorf("5.2, R3: Fit of %d is %d, %t", c.n, i, ok)
		}
	}
	for _, l := range lists() {
		for _, n := range counts(l) {
			at, want := first(l, n)
			if i, ok := Fit(l, n); i != at || ok != want {
				t.Errorf("5.2, R3: Fit(%v, %d) is %d, %t", l, n, i, ok)
			}
		}
	}
}

func TestTake(t *testing.T) {
	for _, c := range []struct {
		l    []api.Run
		n    int
		want []api.Run
		page int
	}{
		{list(0, 4, 8, 2), 1, list(1, 3, 8, 2), 0},
		{list(0, 4, 8, 2), 3, list(3, 1, 8, 2), 0},
		{list(0, 4, 8, 2), 4, list(8, 2), 0},
		{list(0, 1, 3, 3), 2, list(0, 1, 5, 1), 3},
		{list(0, 1, 3, 3), 3, list(0, 1), 3},
		{list(0, 1, 3, 3, 8, 1), 3, list(0, 1, 8, 1), 3},
		{list(0, 1, 3, 3, 8, 3), 3, list(0, 1, 8, 3), 3},
		{list(0, 256), 256, nil, 0},
		{list(0, 256), 255, list(255, 1), 0},
		{list(255, 1), 1, nil, 255},
	} {
		l, page, e := Take(c.l, c.n)
		if !slices.Equal(l, c.want) || page != c.page || e != api.OK {
			t.Errorf("5.2: Take(%v, %d) returns %v, %d, %d", c.l, c.n, l, page, e)
		}
	}
}

func TestTakeOfAllLists(t *testing.T) {
	for _, l := range lists() {
		for _, n := range counts(l) {
			i, ok := first(l, n)
			got, page, e := Take(l, n)
			if !ok {
				want := api.ErrFull
				if n < 1 {
					want = api.ErrArg
				}
				if e != want || len(got) != 0 || page != 0 {
					t.Errorf("5.2, R2, R3: Take(%v, %d) returns %v, %d, %d", l, n, got, page, e)
				}
				continue
			}
			p := picture(l)
			for k := l[i].At; k < l[i].At+n; k++ {
				p[k] = false
			}
			if !slices.Equal(got, p.runs()) || page != l[i].At || e != api.OK {
				t.Errorf("5.2: Take(%v, %d) returns %v, %d, %d", l, n, got, page, e)
			}
			if !Right(got, 256) {
				t.Errorf("5.1: what Take(%v, %d) returns is not valid: %v", l, n, got)
			}
		}
	}
}

func TestPut(t *testing.T) {
	l := list(2, 2, 8, 2)
	for _, c := range []struct {
		at, n int
		want  []api.Run
	}{
		{4, 3, list(2, 5, 8, 2)}, {5, 3, list(2, 2, 5, 5)}, {4, 4, list(2, 8)}, {5, 2, list(2, 2, 5, 2, 8, 2)},
		{0, 1, list(0, 1, 2, 2, 8, 2)}, {0, 2, list(0, 4, 8, 2)}, {1, 1, list(1, 3, 8, 2)},
		{10, 1, list(2, 2, 8, 3)}, {10, 246, list(2, 2, 8, 248)}, {11, 245, list(2, 2, 8, 2, 11, 245)}, {255, 1, list(2, 2, 8, 2, 255, 1)},
	} {
		got, e := Put(l, api.Run{At: c.at, N: c.n})
		if !slices.Equal(got, c.want) || e != api.OK {
			t.Errorf("5.2: Put(%d, %d) returns %v, %d", c.at, c.n, got, e)
		}
	}
}

func TestPutOfWrongRuns(t *testing.T) {
	l := list(2, 2, 8, 4)
	for _, c := range []struct {
		at, n int
		want  api.Errno
	}{
		{0, 3, api.ErrTwice}, {3, 1, api.ErrTwice}, {3, 2, api.ErrTwice}, {2, 2, api.ErrTwice}, {1, 4, api.ErrTwice},
		{7, 2, api.ErrTwice}, {9, 2, api.ErrTwice}, {11, 1, api.ErrTwice}, {11, 5, api.ErrTwice}, {4, 5, api.ErrTwice}, {0, 256, api.ErrTwice},
		{0, 257, api.ErrArg}, {1, 256, api.ErrArg}, {255, 2, api.ErrArg}, {256, 1, api.ErrArg}, {2, 255, api.ErrArg},
		{4, 0, api.ErrArg}, {2, 0, api.ErrArg}, {3, -1, api.ErrArg}, {-1, 1, api.ErrArg}, {-1, 4, api.ErrArg}, {-1, 257, api.ErrArg},
		{1, most, api.ErrArg}, {most, 1, api.ErrArg}, {most, most, api.ErrArg}, {least, least, api.ErrArg}, {least, most, api.ErrArg}, {3, least, api.ErrArg},
	} {
		if got, e := Put(l, api.Run{At: c.at, N: c.n}); e != c.want || len(got) != 0 {
			t.Errorf("5.2, R2, R3: Put(%d, %d) returns %v, %d", c.at, c.n, got, e)
		}
	}
}

// put is what chapter 5 says of Put, on a picture.
func put(p pages, r api.Run) ([]api.Run, api.Errno) {
	if beyond(r, api.MaxPages) {
		return nil, api.ErrArg
	}
	for i := r.At; i < r.At+r.N; i++ {
		if p[i] {
			return nil, api.ErrTwice
		}
		p[i] = true
	}
	return p.runs(), api.OK
}

// places are runs to put into a list: all that lie near both ends of the pages, and the far ones.
func places() []api.Run {
	all := []api.Run{}
	for at := -1; at < 10; at++ {
		for n := -1; n < 11; n++ {
			all = append(all, api.Run{At: at, N: n}, api.Run{At: api.MaxPages - at, N: n})
		}
	}
	for _, at := range numbers() {
		for _, n := range numbers() {
			all = append(all, api.Run{At: at, N: n})
		}
	}
	return all
}

func TestPutIntoAllLists(t *testing.T) {
	for _, l := range lists() {
		p := picture(l)
		for _, r := range places() {
			want, code := put(p, r)
			got, e := Put(l, r)
			if !slices.Equal(got, want) || e != code {
				t.Fatalf("5.2, R2, R3: Put(%v, %v) returns %v, %d, not %v, %d", l, r, got, e, want, code)
			}
			if e == api.OK && !Right(got, 256) {
				t.Errorf("5.1: what Put(%v, %v) returns is not valid: %v", l, r, got)
			}
		}
	}
}

func TestTotalMostHas(t *testing.T) {
	for _, l := range lists() {
		p := picture(l)
		sum, top := 0, 0
		for _, in := range p {
			if in {
				sum++
			}
		}
		for _, r := range p.runs() {
			top = max(top, r.N)
		}
		if Total(l) != sum {
			t.Errorf("5.3: Total of %v is %d", l, Total(l))
		}
		if Most(l) != top {
			t.Errorf("5.3: Most of %v is %d", l, Most(l))
		}
		for i, in := range p {
			if Has(l, i) != in {
				t.Errorf("5.3: Has(%v, %d) is %t", l, i, !in)
			}
		}
		for _, page := range numbers() {
			if (page < 0 || page > 255) && Has(l, page) {
				t.Errorf("5.3: Has(%v, %d) is true", l, page)
			}
		}
	}
}

func TestTotalMostHasOfGivenLists(t *testing.T) {
	for _, c := range []struct {
		l         []api.Run
		sum, most int
	}{{nil, 0, 0}, {[]api.Run{}, 0, 0}, {list(7, 1), 1, 1}, {list(0, 5, 6, 2), 7, 5}, {list(0, 2, 4, 1, 6, 5, 20, 5), 13, 5}, {list(0, 256), 256, 256}} {
		if Total(c.l) != c.sum || Most(c.l) != c.most {
			t.Errorf("5.3: of %v Total is %d and Most %d", c.l, Total(c.l), Most(c.l))
		}
	}
	l := list(4, 2, 7, 1, 255, 1)
	for page, want := range map[int]bool{3: false, 4: true, 5: true, 6: false, 7: true, 8: false, 254: false, 255: true, 256: false, -1: false, -4: false} {
		if Has(l, page) != want {
			t.Errorf("5.3: Has(%v, %d) is %t", l, page, !want)
		}
	}
}

func TestTakeAndPutBack(t *testing.T) {
	for _, l := range lists() {
		for _, n := range counts(l) {
			rest, page, e := Take(l, n)
			if e != api.OK {
				continue
			}
			got, e := Put(rest, api.Run{At: page, N: n})
			if !slices.Equal(got, l) || e != api.OK {
				t.Errorf("5.4: when %d pages are taken from %v and put back it is %v, %d", n, l, got, e)
			}
		}
	}
}

// TestManyTakenAndPutBack takes until nothing is left, and puts back in another order.
func TestManyTakenAndPutBack(t *testing.T) {
	for _, start := range lists() {
		l, taken := start, []api.Run{}
		for n := 5; n > 0; {
			rest, page, e := Take(l, n)
			if e != api.OK {
				n--
				continue
			}
			l, taken = rest, append(taken, api.Run{At: page, N: n})
		}
		if len(l) != 0 {
			t.Errorf("5.2: when all single pages are taken from %v there is left %v", start, l)
		}
		for len(taken) > 0 {
			i := len(taken) * 2 / 3
			rest, e := Put(l, taken[i])
			if e != api.OK {
				t.Fatalf("5.4: Put(%v, %v) returns %d", l, taken[i], e)
			}
			l, taken = rest, slices.Delete(taken, i, i+1)
		}
		if !slices.Equal(l, start) {
			t.Errorf("5.4: when all is put back %v is %v", start, l)
		}
	}
}

// TestHistory holds many Takes and Puts, chosen by a fixed rule, against a picture.
func TestHistory(t *testing.T) {
	l, p := list(0, 256), picture(list(0, 256))
	taken := []api.Run{}
	seed := uint64(88172645463325252)
	for i := range 20000 {
		seed ^= seed << 13
		seed ^= seed >> 7
		seed ^= seed << 17
		if seed>>20%2 == 0 || len(taken) == 0 {
			n := int(seed >> 30 % 12)
			rest, page, e := Take(l, n)
			if e == api.OK {
				l, taken = rest, append(taken, api.Run{At: page, N: n})
				for k := page; k < page+n; k++ {
					p[k] = false
				}
			}
		} else {
			k := int(seed >> 30 % uint64(len(taken)))
			want, _ := put(p, taken[k])
			rest, e := Put(l, taken[k])
			if e != api.OK || !slices.Equal(rest, want) {
				t.Fatalf("5.2: step %d: Put(%v, %v) returns %v, %d", i, l, taken[k], rest, e)
			}
			l, p, taken = rest, picture(rest), slices.Delete(taken, k, k+1)
		}
		if !slices.Equal(l, p.runs()) || !Right(l, 256) {
			t.Fatalf("5.2: step %d: the list is %v, not %v", i, l, p.runs())
		}
	}
}

// within returns a list as a piece of a longer one, so that it has spare capacity, and the longer one.
func within(l []api.Run) ([]api.Run, []api.Run) {
	whole := list(-9, -9)
	whole = append(whole, l...)
	whole = append(whole, list(-8, -8, -8, -8, -8, -8)...)
	return whole[1 : 1+len(l)], whole
}

func TestArgumentsStay(t *testing.T) {
	for _, given := range lists() {
		l, whole := within(given)
		before := slices.Clone(whole)
		check := func(what string, got []api.Run) {
			t.Helper()
			if !slices.Equal(whole, before) {
				t.Fatalf("R4: %s changes %v to %v", what, before, whole)
			}
			spoil(got)
			_ = append(got, api.Run{At: -7, N: -7})
			if !slices.Equal(whole, before) {
				t.Fatalf("R4: what %s returns shares memory with its list %v", what, before)
			}
		}
		for _, n := range counts(given) {
			Right(l, n)
			Fit(l, n)
			Has(l, n)
			got, _, _ := Take(l, n)
			check("Take", got)
		}
		Total(l)
		Most(l)
		for _, r := range places() {
			got, _ := Put(l, r)
			check("Put", got)
		}
	}
}

func TestResultsStay(t *testing.T) {
	for _, l := range lists() {
		x, _, e := Take(l, 1)
		if e != api.OK {
			continue
		}
		keep := slices.Clone(x)
		// A later call must neither reach what an earlier one returned, nor lean on it.
		y, _, _ := Take(l, 1)
		spoil(y)
		z, _ := Put(x, api.Run{At: l[0].At, N: 1})
		spoil(z)
		if !slices.Equal(x, keep) {
			t.Errorf("R4: what Take(%v, 1) returned is now %v", l, x)
		}
	}
}

// TestListsThatAreNotValid asks nothing but that the calls return, and leave their list alone.
func TestListsThatAreNotValid(t *testing.T) {
	wrong := [][]api.Run{
		list(0, 2, 2, 2), list(0, 3, 2, 2), list(2, 1, 0, 1), list(0, 0), list(0, -1), list(-1, 2), list(-3, 1),
		list(0, 1, 2, most, 4, 1), list(300, 5, 1, 1), list(5, 5, 5, 5, 5, 5), list(9, 1, 7, 1, 5, 1, 3, 1, 1, 1),
	}
	for _, at := range numbers() {
		for _, n := range numbers() {
			wrong = append(wrong, list(at, n), list(at, n, 3, 2), list(3, 2, at, n))
		}
	}
	for _, l := range wrong {
		before := slices.Clone(l)
		for _, n := range numbers() {
			Right(l, n)
			Fit(l, n)
			Has(l, n)
			Take(l, n)
			Put(l, api.Run{At: n, N: 1})
			Put(l, api.Run{At: 3, N: n})
		}
		Total(l)
		Most(l)
		if !slices.Equal(l, before) {
			t.Errorf("R1, R4: %v is %v after the calls", before, l)
		}
	}
}
