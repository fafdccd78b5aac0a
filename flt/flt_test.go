package flt

import (
	"fmt"
	"math"
	"math/big"
	"slices"
	"testing"
)

const (
	none     = 9221120237041090560
	plusInf  = 0x7ff0000000000000
	minusInf = 0xfff0000000000000
	minusNul = 0x8000000000000000
	one      = 0x3ff0000000000000
	tiny     = 0x0000000000000001 // the least number above 0
	lastSub  = 0x000fffffffffffff // the greatest number without a full mantissa
	firstFul = 0x0010000000000000
	greatest = 0x7fefffffffffffff
	least    = 0xffefffffffffffff
)

func bits(x float64) uint64 { return math.Float64bits(x) }

// notNumbers are words that are not a number: quiet and signalling, of both signs.
func notNumbers() []uint64 {
	return []uint64{
		none, none + 1, 0x7fffffffffffffff, 0x7ff0000000000001, 0x7ff7ffffffffffff, 0x7ff4000000000000,
		0xfff8000000000000, 0xfff8000000000001, 0xffffffffffffffff, 0xfff0000000000001, 0xfff0000000000005, 0xfff7ffffffffffff,
	}
}

// ascending are numbers at the edges of the chapter, each greater than the one before; -0 comes before +0.
func ascending() []uint64 {
	up := []uint64{
		tiny, 2, lastSub - 1, lastSub, firstFul, firstFul + 1, bits(0.1), bits(0.2), 0x3fdfffffffffffff, bits(0.5), 0x3fe0000000000001,
		0x3fefffffffffffff, one, one + 1, bits(1.5), 0x3fffffffffffffff, bits(2), bits(2.5), bits(3), bits(7), bits(10), bits(1e9 + 0.5),
		bits(1<<52 - 0.5), bits(1 << 52), bits(1<<52 + 1), bits(1<<53 - 1), bits(1 << 53), bits(1<<53 + 2), bits(1 << 62), 0x43dfffffffffffff,
		bits(1 << 63), 0x43e0000000000001, 0x43efffffffffffff, bits(1 << 64), bits(1e300), greatest - 1, greatest, plusInf,
	}
	list := []uint64{}
	for _, w := range slices.Backward(up) {
		list = append(list, w|minusNul)
	}
	return append(append(list, minusNul, 0), up...)
}

// spread are words from all over, by a fixed rule.
func spread() []uint64 {
	list := []uint64{}
	w := uint64(88172645463325252)
	for range 3000 {
		w ^= w << 13
		w ^= w >> 7
		w ^= w << 17
		list = append(list, w)
	}
	return list
}

// words are all of the above.
func words() []uint64 {
	return append(append(notNumbers(), ascending()...), spread()...)
}

// eachPair calls try with all pairs of edges, and with neighbours of the spread.
func eachPair(try func(a, b uint64)) {
	list := append(notNumbers(), ascending()...)
	for _, a := range list {
		for _, b := range list {
			try(a, b)
		}
	}
	far := spread()
	for i, a := range far[1:] {
		try(a, far[i])
		// The same exponent, so that sums are not merely the greater one.
		try(a, far[i]&0x800fffffffffffff|a&plusInf)
	}
}

func isNumber(w uint64) bool   { return w&^minusNul <= plusInf }
func isEndless(w uint64) bool  { return w&^minusNul == plusInf }
func isZero(w uint64) bool     { return w&^minusNul == 0 }
func isNegative(w uint64) bool { return w>>63 == 1 }

func TestNumHasTheBits(t *testing.T) {
	for _, w := range words() {
		x := Num(w)
		if bits(x) != w {
			t.Errorf("2.1: Num(%#x) has the bits %#x", w, bits(x))
		}
		if !isNumber(w) && x == x {
			t.Errorf("2.1: Num(%#x) is %g", w, x)
		}
	}
	if Num(Int(1)) != 1 {
		t.Errorf("2.1: Num(Int(1)) is %g", Num(Int(1)))
	}
}

func TestWord(t *testing.T) {
	for _, w := range words() {
		want := w
		if !isNumber(w) {
			want = none
		}
		if got := Word(math.Float64frombits(w)); got != want {
			t.Errorf("2.1: Word of the bits %#x is %#x", w, got)
		}
	}
	for _, c := range []struct {
		x    float64
		want uint64
	}{
		{0, 0}, {math.Copysign(0, -1), minusNul}, {1, one}, {-1, one | minusNul}, {0.5, 0x3fe0000000000000}, {math.Inf(1), plusInf}, {math.Inf(-1), minusInf},
		{math.NaN(), none}, {-math.NaN(), none}, {math.SmallestNonzeroFloat64, tiny}, {math.MaxFloat64, greatest}, {-math.MaxFloat64, least},
	} {
		if got := Word(c.x); got != c.want {
			t.Errorf("2.1: Word(%g) is %#x, not %#x", c.x, got, c.want)
		}
	}
}

func TestInt(t *testing.T) {
	for _, c := range []struct {
		n    int
		want uint64
	}{
		{-7, 0xc01c000000000000}, {0, 0}, {1, one}, {-1, 0xbff0000000000000}, {2, 0x4000000000000000}, {10, 0x4024000000000000},
		{1<<53 - 1, 0x433fffffffffffff}, {1 << 53, 0x4340000000000000}, {1<<53 + 1, 0x4340000000000000}, {1<<53 + 2, 0x4340000000000001}, {1<<53 + 3, 0x4340000000000002},
		{1 - 1<<53, 0xc33fffffffffffff}, {-1 << 53, 0xc340000000000000}, {-1<<53 - 1, 0xc340000000000000}, {-1<<53 - 2, 0xc340000000000001}, {-1<<53 - 3, 0xc340000000000002},
		{math.MaxInt64, 0x43e0000000000000}, {math.MaxInt64 - 511, 0x43e0000000000000}, {math.MaxInt64 - 512, 0x43dfffffffffffff},
		{math.MinInt64, 0xc3e0000000000000}, {math.MinInt64 + 1, 0xc3e0000000000000}, {math.MinInt64 + 513, 0xc3dfffffffffffff},
	} {
		if got := Int(c.n); got != c.want {
			t.Errorf("2.1: Int(%d) is %#x, not %#x", c.n, got, c.want)
		}
	}
}

func TestIntIsNearest(t *testing.T) {
	for _, w := range spread() {
		x, _ := new(big.Float).SetInt64(int64(w)).Float64()
		if got := Int(int(w)); got != bits(x) {
			t.Errorf("2.1: Int(%d) is %#x, not %#x", int(w), got, bits(x))
		}
	}
}

func TestArithmetic(t *testing.T) {
	two, half := Int(2), bits(0.5)
	for _, c := range []struct {
		name       string
		f          func(a, b uint64) uint64
		a, b, want uint64
	}{
		{"Add", Add, plusInf, minusInf, none}, {"Add", Add, minusInf, plusInf, none}, {"Add", Add, plusInf, plusInf, plusInf}, {"Add", Add, minusInf, greatest, minusInf},
		{"Add", Add, one, two, Int(3)}, {"Add", Add, bits(0.1), bits(0.2), 0x3fd3333333333334}, {"Add", Add, one, Int(-1), 0}, {"Add", Add, Int(-1), one, 0},
		{"Add", Add, 0, 0, 0}, {"Add", Add, 0, minusNul, 0}, {"Add", Add, minusNul, 0, 0}, {"Add", Add, minusNul, minusNul, minusNul},
		{"Add", Add, tiny, tiny, 2}, {"Add", Add, lastSub, tiny, firstFul}, {"Add", Add, greatest, greatest, plusInf}, {"Add", Add, least, least, minusInf}, {"Add", Add, greatest, one, greatest},
		{"Add", Add, Int(1 << 53), one, Int(1 << 53)}, {"Add", Add, Int(1<<53 - 1), one, Int(1 << 53)},
		{"Sub", Sub, one, Int(3), Int(-2)}, {"Sub", Sub, one, one, 0}, {"Sub", Sub, plusInf, plusInf, none}, {"Sub", Sub, minusInf, minusInf, none}, {"Sub", Sub, plusInf, minusInf, plusInf}, {"Sub", Sub, one, plusInf, minusInf},
		{"Sub", Sub, 0, 0, 0}, {"Sub", Sub, minusNul, 0, minusNul}, {"Sub", Sub, 0, minusNul, 0}, {"Sub", Sub, minusNul, minusNul, 0}, {"Sub", Sub, firstFul, tiny, lastSub}, {"Sub", Sub, least, greatest, minusInf},
		{"Mul", Mul, 0, Int(-1), minusNul}, {"Mul", Mul, minusNul, Int(-1), 0}, {"Mul", Mul, 0, plusInf, none}, {"Mul", Mul, minusInf, minusNul, none}, {"Mul", Mul, minusInf, Int(-2), plusInf},
		{"Mul", Mul, Int(-3), Int(4), Int(-12)}, {"Mul", Mul, greatest, two, plusInf}, {"Mul", Mul, greatest, Int(-2), minusInf}, {"Mul", Mul, tiny, half, 0}, {"Mul", Mul, tiny | minusNul, half, minusNul}, {"Mul", Mul, 3, half, 2},
		{"Div", Div, 0, 0, none}, {"Div", Div, minusNul, 0, none}, {"Div", Div, plusInf, minusInf, none}, {"Div", Div, one, 0, plusInf}, {"Div", Div, one, minusNul, minusInf}, {"Div", Div, Int(-1), minusNul, plusInf}, {"Div", Div, plusInf, 0, plusInf},
		{"Div", Div, one, two, half}, {"Div", Div, one, Int(3), 0x3fd5555555555555}, {"Div", Div, Int(6), Int(-2), Int(-3)}, {"Div", Div, Int(-1), plusInf, minusNul}, {"Div", Div, 0, Int(-5), minusNul}, {"Div", Div, greatest, half, plusInf}, {"Div", Div, tiny, two, 0},
	} {
		if got := c.f(c.a, c.b); got != c.want {
			t.Errorf("2.1: %s(%#x, %#x) is %#x, not %#x", c.name, c.a, c.b, got, c.want)
		}
	}
}

func TestArithmeticHoldsAgainstFractions(t *testing.T) {
	for _, c := range []struct {
		name string
		f    func(a, b uint64) uint64
		want func(a, b uint64) uint64
	}{{"Add", Add, sumByRule}, {"Sub", Sub, differenceByRule}, {"Mul", Mul, productByRule}, {"Div", Div, quotientByRule}} {
		eachPair(func(a, b uint64) {
			if got, want := c.f(a, b), c.want(a, b); got != want {
				t.Errorf("2.1: %s(%#x, %#x) is %#x, not %#x", c.name, a, b, got, want)
			}
		})
	}
}

func TestNeg(t *testing.T) {
	for _, c := range [][2]uint64{{0, 1 << 63}, {minusNul, 0}, {plusInf, minusInf}, {minusInf, plusInf}, {Int(7), Int(-7)}, {Int(-7), Int(7)}, {tiny, tiny | minusNul}, {greatest, least}} {
		if got := Neg(c[0]); got != c[1] {
			t.Errorf("2.1: Neg(%#x) is %#x, not %#x", c[0], got, c[1])
		}
	}
	for _, w := range words() {
		want := w ^ minusNul
		if !isNumber(w) {
			want = none
		}
		if got := Neg(w); got != want {
			t.Errorf("2.1: Neg(%#x) is %#x, not %#x", w, got, want)
		}
	}
}

func TestFloor(t *testing.T) {
	for _, c := range [][2]uint64{
		{plusInf, plusInf}, {minusInf, minusInf}, {0, 0}, {minusNul, minusNul}, {bits(1.5), Int(1)}, {bits(-1.5), Int(-2)}, {Int(7), Int(7)}, {Int(-7), Int(-7)},
		{bits(0.5), 0}, {bits(-0.5), Int(-1)}, {tiny, 0}, {tiny | minusNul, Int(-1)}, {0x3fefffffffffffff, 0}, {0xbfefffffffffffff, Int(-1)}, {greatest, greatest}, {least, least},
		{bits(1<<52 - 0.5), Int(1<<52 - 1)}, {bits(0.5 - 1<<52), Int(-1 << 52)}, {bits(1<<51 + 0.5), Int(1 << 51)}, {Int(1 << 53), Int(1 << 53)},
	} {
		if got := Floor(c[0]); got != c[1] {
			t.Errorf("2.1: Floor(%#x) is %#x, not %#x", c[0], got, c[1])
		}
	}
	for _, w := range words() {
		if got, want := Floor(w), floorByRule(w); got != want {
			t.Errorf("2.1: Floor(%#x) is %#x, not %#x", w, got, want)
		}
	}
}

func TestMinAndMaxOfNumbers(t *testing.T) {
	list := ascending()
	for i, a := range list {
		for j, b := range list {
			if got := Min(a, b); got != list[min(i, j)] {
				t.Errorf("2.1: Min(%#x, %#x) is %#x", a, b, got)
			}
			if got := Max(a, b); got != list[max(i, j)] {
				t.Errorf("2.1: Max(%#x, %#x) is %#x", a, b, got)
			}
		}
	}
}

func TestMinAndMaxOfNoNumber(t *testing.T) {
	for _, no := range notNumbers() {
		for _, w := range append(notNumbers(), ascending()...) {
			for _, got := range []uint64{Min(no, w), Min(w, no), Max(no, w), Max(w, no)} {
				if got != none {
					t.Errorf("2.1: Min or Max of %#x and %#x is %#x", no, w, got)
				}
			}
		}
	}
}

func TestNoOtherWordThatIsNoNumber(t *testing.T) {
	eachPair(func(a, b uint64) {
		for i, got := range []uint64{Add(a, b), Sub(a, b), Mul(a, b), Div(a, b), Min(a, b), Max(a, b), Neg(a), Floor(a), Word(Num(a)), Int(int(a))} {
			if !isNumber(got) && got != none {
				t.Errorf("2.1: call %d of %#x and %#x is %#x", i, a, b, got)
			}
		}
	})
}

func TestEveryCallEnds(t *testing.T) {
	last := [2]uint64{}
	defer func() {
		if caught := recover(); caught != nil {
			t.Errorf("R1: a call of %#x panics: %v", last, caught)
		}
	}()
	eachPair(func(a, b uint64) {
		last = [2]uint64{a, b}
		for _, f := range []func(a, b uint64) uint64{Add, Sub, Mul, Div, Min, Max} {
			f(a, b)
		}
		for _, f := range []func(a uint64) uint64{Neg, Floor, Rank} {
			f(a)
		}
		Word(Num(a))
		Int(int(a))
		Less(a, b)
		Equal(a, b)
		True(a)
		Text(a)
	})
}

func TestLessAndEqual(t *testing.T) {
	if !Less(Int(1), Int(2)) || Less(Int(2), Int(1)) || Less(Int(2), Int(2)) {
		t.Error("2.2: Less of 1 and 2")
	}
	if !Equal(0, minusNul) || !Equal(minusNul, 0) || Less(minusNul, 0) || Less(0, minusNul) {
		t.Error("2.2: +0 against -0")
	}
	list := ascending()
	for i, a := range list {
		for j, b := range list {
			zeros := isZero(a) && isZero(b)
			if got := Less(a, b); got != (i < j && !zeros) {
				t.Errorf("2.2: Less(%#x, %#x) is %t", a, b, got)
			}
			if got := Equal(a, b); got != (i == j || zeros) {
				t.Errorf("2.2: Equal(%#x, %#x) is %t", a, b, got)
			}
		}
	}
}

func TestLessAndEqualOfNoNumber(t *testing.T) {
	for _, no := range notNumbers() {
		for _, w := range append(notNumbers(), ascending()...) {
			if Less(no, w) || Less(w, no) || Equal(no, w) || Equal(w, no) {
				t.Errorf("2.2: %#x is less than or equal to %#x, or the other way", no, w)
			}
		}
	}
}

func TestTrue(t *testing.T) {
	if !True(none) {
		t.Error("2.2: True of NaN is false")
	}
	for _, w := range words() {
		if got := True(w); got == isZero(w) {
			t.Errorf("2.2: True(%#x) is %t", w, got)
		}
	}
}

func TestRank(t *testing.T) {
	for _, c := range [][2]uint64{
		{0, 1 << 63}, {minusNul, 1<<63 - 1}, {1<<63 - 1, 1<<64 - 1}, {1<<64 - 1, 0}, {one, 0xbff0000000000000}, {0xbff0000000000000, 0x400fffffffffffff},
		{plusInf, 0xfff0000000000000}, {minusInf, 0x000fffffffffffff}, {none, 0xfff8000000000000}, {0xfff8000000000000, 0x0007ffffffffffff}, {tiny, 1<<63 + 1}, {tiny | minusNul, 1<<63 - 2},
	} {
		if got := Rank(c[0]); got != c[1] {
			t.Errorf("2.2: Rank(%#x) is %#x, not %#x", c[0], got, c[1])
		}
	}
	for _, w := range words() {
		want := w ^ 1<<63
		if isNegative(w) {
			want = 1<<64 - 1 - w
		}
		if got := Rank(w); got != want {
			t.Errorf("2.2: Rank(%#x) is %#x, not %#x", w, got, want)
		}
	}
}

func TestText(t *testing.T) {
	for _, c := range []struct {
		w    uint64
		want string
	}{
		{Int(-7), "-7"}, {Div(Int(1), Int(2)), "0x3fe0000000000000"}, {plusInf, "inf"}, {minusInf, "-inf"}, {minusNul, "-0"}, {0, "0"}, {Int(1), "1"}, {Int(-1), "-1"}, {Int(10), "10"}, {Int(100), "100"}, {Int(-1200), "-1200"},
		{Int(1<<53 - 1), "9007199254740991"}, {Int(1<<53 - 2), "9007199254740990"}, {Int(1 - 1<<53), "-9007199254740991"},
		{Int(1 << 53), "0x4340000000000000"}, {Int(-1 << 53), "0xc340000000000000"}, {Int(1<<53 + 2), "0x4340000000000001"}, {Int(-1<<53 - 2), "0xc340000000000001"},
		{Int(math.MaxInt64), "0x43e0000000000000"}, {Int(math.MinInt64), "0xc3e0000000000000"}, {bits(1e300), "0x7e37e43c8800759c"},
		{bits(2.5), "0x4004000000000000"}, {bits(-2.5), "0xc004000000000000"}, {bits(-0.5), "0xbfe0000000000000"}, {bits(1<<52 - 0.5), "0x432fffffffffffff"}, {bits(0.5 - 1<<52), "0xc32fffffffffffff"}, {bits(0.1), "0x3fb999999999999a"},
		{tiny, "0x0000000000000001"}, {tiny | minusNul, "0x8000000000000001"}, {lastSub, "0x000fffffffffffff"}, {0xabcdef, "0x0000000000abcdef"}, {greatest, "0x7fefffffffffffff"}, {least, "0xffefffffffffffff"},
	} {
		if got := Text(c.w); got != c.want {
			t.Errorf("2.2: Text(%#x) is %q, not %q", c.w, got, c.want)
		}
	}
	for _, no := range notNumbers() {
		if got := Text(no); got != "nan" {
			t.Errorf("2.2: Text(%#x) is %q", no, got)
		}
	}
}

func TestTextHoldsAgainstFractions(t *testing.T) {
	list := words()
	for k := range 64 {
		for d := -2; d <= 2; d++ {
			list = append(list, bits(float64(int64(1)<<k+int64(d))), bits(float64(d)+0.5+float64(uint64(1)<<k)))
		}
	}
	for _, w := range list {
		if got, want := Text(w), textByRule(w); got != want {
			t.Errorf("2.2: Text(%#x) is %q, not %q", w, got, want)
		}
	}
}

func TestRanksIncrease(t *testing.T) {
	list := ascending()
	for _, w := range spread() {
		if isNumber(w) {
			list = append(list, w)
		}
	}
	for _, a := range list {
		for _, b := range list {
			if math.Float64frombits(a) < math.Float64frombits(b) && Rank(a) >= Rank(b) {
				t.Fatalf("2.3: %#x is less than %#x, its Rank is not", a, b)
			}
		}
	}
	if Rank(minusNul) >= Rank(0) {
		t.Error("2.3: the Rank of -0 is not less than that of +0")
	}
}

func TestTextsDiffer(t *testing.T) {
	of := map[string]uint64{}
	list := append(ascending(), spread()...)
	for n := -600; n <= 600; n++ {
		list = append(list, Int(n), bits(float64(n)/3), uint64(n))
	}
	for _, w := range list {
		if !isNumber(w) {
			continue
		}
		text := Text(w)
		if other, ok := of[text]; ok && other != w {
			t.Errorf("2.3: %#x and %#x both have the Text %q", w, other, text)
		}
		of[text] = w
	}
}

// round returns the bits of the float64 nearest to x; a zero has the sign that is asked for.
func round(x *big.Rat, negativeZero bool) uint64 {
	near, _ := x.Float64()
	switch {
	case near != 0:
		return bits(near)
	case negativeZero:
		return minusNul
	}
	return 0
}

func fraction(w uint64) *big.Rat {
	return new(big.Rat).SetFloat64(math.Float64frombits(w))
}

// sumByRule adds fractions of any length, and tells what no fraction is by the signs alone.
func sumByRule(a, b uint64) uint64 {
	switch {
	case !isNumber(a) || !isNumber(b):
		return none
	case isEndless(a) && isEndless(b) && a != b:
		return none
	case isEndless(a):
		return a
	case isEndless(b):
		return b
	}
	return round(new(big.Rat).Add(fraction(a), fraction(b)), a == minusNul && b == minusNul)
}

func differenceByRule(a, b uint64) uint64 {
	return sumByRule(a, b^minusNul)
}

func productByRule(a, b uint64) uint64 {
	sign := (a ^ b) & minusNul
	switch {
	case !isNumber(a) || !isNumber(b):
		return none
	case isEndless(a) && isZero(b) || isZero(a) && isEndless(b):
		return none
	case isEndless(a) || isEndless(b):
		return plusInf | sign
	}
	return round(new(big.Rat).Mul(fraction(a), fraction(b)), sign != 0)
}

func quotientByRule(a, b uint64) uint64 {
	sign := (a ^ b) & minusNul
	switch {
	case !isNumber(a) || !isNumber(b):
		return none
	case isEndless(a) && isEndless(b) || isZero(a) && isZero(b):
		return none
	case isEndless(a) || isZero(b):
		return plusInf | sign
	case isEndless(b):
		return sign
	}
	return round(new(big.Rat).Quo(fraction(a), fraction(b)), sign != 0)
}

// floorByRule divides integers of any length; big's Div rounds down where the divisor is positive.
func floorByRule(w uint64) uint64 {
	if !isNumber(w) {
		return none
	}
	if isEndless(w) || isZero(w) {
		return w
	}
	x := fraction(w)
	down := new(big.Int).Div(x.Num(), x.Denom())
	return round(new(big.Rat).SetInt(down), false)
}

func textByRule(w uint64) string {
	switch {
	case !isNumber(w):
		return "nan"
	case w == plusInf:
		return "inf"
	case w == minusInf:
		return "-inf"
	case w == minusNul:
		return "-0"
	}
	x := fraction(w)
	if x.IsInt() && x.Num().CmpAbs(big.NewInt(1<<53)) < 0 {
		return x.Num().String()
	}
	return fmt.Sprintf("0x%016x", w)
}
