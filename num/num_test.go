package num

import (
	"math"
	"math/big"
	"testing"
)

const (
	least = math.MinInt64
	most  = math.MaxInt64
)

// edges are the numbers at which a bound of the chapter lies, and their neighbours.
func edges() []int {
	list := []int{least, least + 1, -1 << 62, -64, -2, -1, 0, most - 1, most}
	for k := range 63 {
		list = append(list, 1<<k-1, 1<<k, 1<<k+1)
	}
	return append(list, 6, 10, 100, 3<<60, 3<<60+1, 1<<62-2, most/3, most/3+1)
}

// small are the numbers on which a law is tried in all combinations.
func small() []int {
	list := []int{}
	for n := -3; n <= 70; n++ {
		list = append(list, n)
	}
	return list
}

func TestPowOfPowers(t *testing.T) {
	for k := range 63 {
		if !Pow(1 << k) {
			t.Errorf("1.1: Pow(2^%d) is false", k)
		}
	}
}

func TestPowOfOthers(t *testing.T) {
	for _, n := range []int{3, 5, 6, 7, 9, 12, 63, 65, 3 << 61, 0, -1, -2, -4, -1 << 62, least, least + 1, 1<<62 - 1, 1<<62 + 1, most} {
		if Pow(n) {
			t.Errorf("1.1: Pow(%d) is true", n)
		}
	}
}

func TestPowBetweenPowers(t *testing.T) {
	for k := 2; k < 63; k++ {
		for _, n := range []int{1<<k - 1, 1<<k + 1, -(1 << k)} {
			if Pow(n) {
				t.Errorf("1.1: Pow(%d) is true", n)
			}
		}
	}
}

func TestLog(t *testing.T) {
	for _, c := range []struct{ n, want int }{
		{5, 3}, {1, 0}, {2, 1}, {3, 2}, {4, 2}, {8, 3}, {9, 4}, {64, 6}, {65, 7}, {4096, 12},
		{0, 0}, {-1, 0}, {-5, 0}, {least, 0}, {least + 1, 0},
		{1<<62 - 1, 62}, {1 << 62, 62}, {1<<62 + 1, 63}, {most - 1, 63}, {most, 63},
	} {
		if got := Log(c.n); got != c.want {
			t.Errorf("1.1: Log(%d) is %d, not %d", c.n, got, c.want)
		}
	}
}

func TestLogIsLeast(t *testing.T) {
	for _, n := range append(edges(), small()...) {
		want := 0
		for want < 63 && big.NewInt(int64(n)).Cmp(power(want)) > 0 {
			want++
		}
		if got := Log(n); got != want {
			t.Errorf("1.1: Log(%d) is %d, not %d", n, got, want)
		}
	}
}

func TestCeil(t *testing.T) {
	for _, c := range []struct{ n, m, want int }{
		{65, 64, 2}, {64, 64, 1}, {63, 64, 1}, {1, 64, 1}, {128, 64, 2}, {129, 64, 3}, {7, 1, 7}, {10, 3, 4}, {9, 3, 3},
		{0, 64, 0}, {-1, 64, 0}, {-65, 64, 0}, {5, 0, 0}, {5, -1, 0}, {0, 0, 0}, {-5, -5, 0},
		{least, 1, 0}, {1, least, 0}, {least, least, 0}, {least, -1, 0}, {most, least, 0}, {least, most, 0},
		{most, 1, most}, {most, 2, 1 << 62}, {most, most, 1}, {most - 1, most, 1}, {most, most - 1, 2}, {1, most, 1},
	} {
		if got := Ceil(c.n, c.m); got != c.want {
			t.Errorf("1.1: Ceil(%d, %d) is %d, not %d", c.n, c.m, got, c.want)
		}
	}
}

func TestCeilHoldsAgainstGreatNumbers(t *testing.T) {
	for _, n := range edges() {
		for _, m := range edges() {
			want := 0
			if n >= 1 && m >= 1 {
				want = int(ceilBig(n, m).Int64())
			}
			if got := Ceil(n, m); got != want {
				t.Errorf("1.1: Ceil(%d, %d) is %d, not %d", n, m, got, want)
			}
		}
	}
}

func TestAlign(t *testing.T) {
	for _, c := range []struct {
		n, m, want int
		ok         bool
	}{
		{33, 32, 64, true}, {32, 32, 32, true}, {31, 32, 32, true}, {1, 32, 32, true}, {0, 32, 0, true}, {8, 7, 14, true}, {5, 1, 5, true},
		{-1, 32, 0, false}, {-32, 32, 0, false}, {least, 1, 0, false}, {5, 0, 0, false}, {0, 0, 0, false}, {5, -3, 0, false}, {0, least, 0, false}, {least, least, 0, false},
		{1 << 62, 1, 1 << 62, true}, {1 << 62, 1 << 62, 1 << 62, true}, {1<<62 - 1, 2, 1 << 62, true}, {1<<61 + 1, 1 << 61, 1 << 62, true},
		{1<<62 + 1, 1, 0, false}, {1 << 62, 3, 0, false}, {1, 1<<62 + 1, 0, false}, {1<<62 - 1, 1<<62 - 2, 0, false},
		{0, most, 0, true}, {1, most, 0, false}, {most, 1, 0, false}, {most, most, 0, false},
	} {
		if got, ok := Align(c.n, c.m); got != c.want || ok != c.ok {
			t.Errorf("1.1: Align(%d, %d) is %d, %t, not %d, %t", c.n, c.m, got, ok, c.want, c.ok)
		}
	}
}

func TestAlignHoldsAgainstGreatNumbers(t *testing.T) {
	for _, n := range edges() {
		for _, m := range edges() {
			want, ok := alignBig(n, m)
			if got, gotOK := Align(n, m); got != want || gotOK != ok {
				t.Errorf("1.1: Align(%d, %d) is %d, %t, not %d, %t", n, m, got, gotOK, want, ok)
			}
		}
	}
}

func TestPage(t *testing.T) {
	for _, c := range []struct{ at, want int }{
		{64, 1}, {0, 0}, {1, 0}, {63, 0}, {65, 1}, {127, 1}, {128, 2}, {16383, 255}, {16384, 256},
		{-1, -1}, {-63, -1}, {-64, -1}, {-65, -1}, {-128, -1}, {least, -1}, {least + 1, -1},
		{1 << 62, 1 << 56}, {most, 1<<57 - 1},
	} {
		if got := Page(c.at); got != c.want {
			t.Errorf("1.1: Page(%d) is %d, not %d", c.at, got, c.want)
		}
	}
}

func TestPageContainsItsAddress(t *testing.T) {
	for _, at := range append(edges(), small()...) {
		if at < 0 {
			continue
		}
		first := Page(at) * 64
		if first > at || at-first > 63 {
			t.Errorf("1.1: Page(%d) begins at %d", at, first)
		}
	}
}

func TestOver(t *testing.T) {
	const far = 1 << 61
	for _, c := range []struct {
		at, n, to, m int
		want         bool
	}{
		{0, 4, 3, 1, true}, {0, 4, 4, 1, false}, {3, 4, 0, 3, false}, {3, 4, 0, 4, true}, {5, 5, 5, 5, true}, {0, 10, 4, 2, true}, {0, 1, 0, 1, true}, {0, 1, 1, 1, false}, {2, 3, 9, 3, false},
		{0, 0, 0, 1, false}, {0, 1, 0, 0, false}, {0, 0, 0, 0, false}, {0, 9, 4, 0, false}, {0, -1, 0, 1, false}, {5, -3, 3, 2, false},
		{-1, 5, 0, 5, false}, {0, 5, -1, 5, false}, {-1, 1, -1, 1, false},
		{far, 1, far, 1, true}, {far, far, far, far, true}, {0, far, far, far, false}, {1, far, far, far, true}, {0, far, far - 1, 1, true}, {0, far, 0, far, true},
		{far + 1, 1, far + 1, 1, false}, {far + 1, 1, far, 2, false}, {far, 2, far + 1, 1, false}, {0, far + 1, 0, 1, false}, {0, 1, 0, far + 1, false},
		{least, 1, least, 1, false}, {0, most, 0, most, false}, {most, most, most, most, false}, {0, 1, 0, least, false}, {0, least, 0, 1, false}, {most, 1, 0, 1, false}, {0, 1, most, 1, false},
	} {
		if got := Over(c.at, c.n, c.to, c.m); got != c.want {
			t.Errorf("1.2: Over(%d, %d, %d, %d) is %t", c.at, c.n, c.to, c.m, got)
		}
	}
}

func TestOverFindsEachCommonWord(t *testing.T) {
	eachRanges(func(at, n, to, m int) {
		if got, want := Over(at, n, to, m), shareWord(at, n, to, m); got != want {
			t.Errorf("1.2: Over(%d, %d, %d, %d) is %t", at, n, to, m, got)
		}
	})
}

func TestOverExchanged(t *testing.T) {
	same := func(at, n, to, m int) {
		if Over(at, n, to, m) != Over(to, m, at, n) {
			t.Errorf("1.3: Over(%d, %d, %d, %d) changes if its ranges are exchanged", at, n, to, m)
		}
	}
	eachRanges(same)
	list := []int{least, -1, 0, 1, 2, 1<<61 - 1, 1 << 61, 1<<61 + 1, 1 << 62, most}
	for _, at := range list {
		for _, n := range list {
			for _, to := range list {
				for _, m := range list {
					same(at, n, to, m)
				}
			}
		}
	}
}

func TestLogAndPow(t *testing.T) {
	for _, n := range append(edges(), small()...) {
		exact := power(Log(n)).Cmp(big.NewInt(int64(n))) == 0
		if exact != Pow(n) {
			t.Errorf("1.3: 2^Log(%d) is it: %t; Pow: %t", n, exact, Pow(n))
		}
	}
}

// eachRanges calls try with all pairs of short ranges near address 0.
func eachRanges(try func(at, n, to, m int)) {
	for at := -2; at <= 6; at++ {
		for n := -2; n <= 6; n++ {
			for to := -2; to <= 6; to++ {
				for m := -2; m <= 6; m++ {
					try(at, n, to, m)
				}
			}
		}
	}
}

// shareWord looks at each word of the two ranges.
func shareWord(at, n, to, m int) bool {
	if at < 0 || to < 0 {
		return false
	}
	for a := at; a < at+n; a++ {
		for b := to; b < to+m; b++ {
			if a == b {
				return true
			}
		}
	}
	return false
}

func power(k int) *big.Int {
	return new(big.Int).Lsh(big.NewInt(1), uint(k))
}

// ceilBig is n / m, rounded up, where no sum can wrap round.
func ceilBig(n, m int) *big.Int {
	sum := new(big.Int).Add(big.NewInt(int64(n)), big.NewInt(int64(m)))
	return sum.Sub(sum, big.NewInt(1)).Div(sum, big.NewInt(int64(m)))
}

// alignBig is Align where no product can wrap round.
func alignBig(n, m int) (int, bool) {
	if n < 0 || m < 1 {
		return 0, false
	}
	multiple := ceilBig(n, m)
	multiple.Mul(multiple, big.NewInt(int64(m)))
	if multiple.Cmp(power(62)) > 0 {
		return 0, false
	}
	return int(multiple.Int64()), true
}
