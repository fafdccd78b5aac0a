package cell

import (
	"math"
	"math/big"
	"testing"

	"rickyard/api"
)

const (
	least = math.MinInt64
	most  = math.MaxInt64
	far   = 1 << 61
)

// numbers are those at the edges of what a lock may hold, just beyond, and far out.
func numbers() []int {
	return []int{
		least, least + 1, -far - 1, -far, -far + 1, -1 << 32, -2, -1,
		0, 1, 2, 3, 7, 1 << 31, 1 << 32, 1 << 53, far / 2,
		far - 2, far - 1, far, far + 1, far + 2, 1 << 62, most - 1, most,
	}
}

// locks are all pairs of those numbers.
func locks() []api.Lock {
	list := []api.Lock{}
	for _, next := range numbers() {
		for _, turn := range numbers() {
			list = append(list, api.Lock{Next: next, Turn: turn})
		}
	}
	return list
}

// valid is what chapter 4 says of a lock that may be; no number here can wrap round.
func valid(l api.Lock) bool {
	next, turn := big.NewInt(int64(l.Next)), big.NewInt(int64(l.Turn))
	top := new(big.Int).Exp(big.NewInt(2), big.NewInt(61), nil)
	return turn.Sign() >= 0 && turn.Cmp(next) <= 0 && next.Cmp(top) <= 0
}

// waiting is Next - Turn - 1, and only asked of locks that are held.
func waiting(l api.Lock) int {
	n := new(big.Int).Sub(big.NewInt(int64(l.Next)), big.NewInt(int64(l.Turn)))
	return int(n.Sub(n, big.NewInt(1)).Int64())
}

func TestSwap(t *testing.T) {
	for _, have := range numbers() {
		for _, old := range numbers() {
			for _, next := range numbers() {
				want, same := have, have == old
				if same {
					want = next
				}
				if got, ok := Swap(have, old, next); got != want || ok != same {
					t.Errorf("4.1: Swap(%d, %d, %d) is %d, %t", have, old, next, got, ok)
				}
			}
		}
	}
}

func TestExamples(t *testing.T) {
	if n, ok := Swap(1, 2, 3); n != 1 || ok {
		t.Errorf("4.1: Swap(1, 2, 3) is %d, %t", n, ok)
	}
	if May(api.Lock{Next: 0, Turn: 1}) {
		t.Error("4.2: a lock with Next 0 and Turn 1 is valid")
	}
	l, n, ok := Take(api.Lock{})
	if l != (api.Lock{Next: 1}) || n != 0 || !ok {
		t.Errorf("4.2: Take of the zero lock is %v, %d, %t", l, n, ok)
	}
	if !Mine(l, 0) {
		t.Error("4.2: after the first Take the turn is not that of ticket 0")
	}
	if l, ok := Leave(api.Lock{}); l != (api.Lock{}) || ok {
		t.Errorf("4.2: Leave of the zero lock is %v, %t", l, ok)
	}
	if Held(api.Lock{}) {
		t.Error("4.2: the zero lock is held")
	}
	if n := Wait(api.Lock{}); n != 0 {
		t.Errorf("4.2: Wait of the zero lock is %d", n)
	}
}

func TestMay(t *testing.T) {
	for _, l := range []api.Lock{
		{}, {Next: 1}, {Next: 1, Turn: 1}, {Next: 7, Turn: 6}, {Next: far}, {Next: far, Turn: far - 1}, {Next: far, Turn: far},
	} {
		if !May(l) {
			t.Errorf("4.2: May(%v) is false", l)
		}
	}
	for _, l := range []api.Lock{
		{Turn: -1}, {Turn: 1}, {Next: 5, Turn: -1}, {Next: 5, Turn: 6}, {Next: -1, Turn: -1}, {Next: -1}, {Next: -1, Turn: -2},
		{Next: far + 1}, {Next: far + 1, Turn: far}, {Next: far + 1, Turn: far + 1}, {Next: far, Turn: far + 1}, {Next: far, Turn: -1},
		{Next: most}, {Next: most, Turn: most}, {Next: least}, {Next: least, Turn: least}, {Next: least, Turn: most}, {Next: most, Turn: least},
	} {
		if May(l) {
			t.Errorf("4.2: May(%v) is true", l)
		}
	}
	for _, l := range locks() {
		if May(l) != valid(l) {
			t.Errorf("4.2: May(%v) is %t", l, May(l))
		}
	}
}

func TestLocksThatAreNotValid(t *testing.T) {
	for _, l := range locks() {
		if valid(l) {
			continue
		}
		if x, n, ok := Take(l); x != (api.Lock{}) || n != 0 || ok {
			t.Errorf("4.2, R3: Take(%v) is %v, %d, %t", l, x, n, ok)
		}
		if x, ok := Leave(l); x != (api.Lock{}) || ok {
			t.Errorf("4.2, R3: Leave(%v) is %v, %t", l, x, ok)
		}
		if Held(l) {
			t.Errorf("4.2: Held(%v) is true", l)
		}
		if n := Wait(l); n != 0 {
			t.Errorf("4.2: Wait(%v) is %d", l, n)
		}
		for _, ticket := range append(numbers(), l.Turn, l.Next) {
			if Mine(l, ticket) {
				t.Errorf("4.2: Mine(%v, %d) is true", l, ticket)
			}
		}
	}
}

func TestTake(t *testing.T) {
	for _, l := range locks() {
		if !valid(l) {
			continue
		}
		x, n, ok := Take(l)
		if l.Next == far {
			if x != (api.Lock{}) || n != 0 || ok {
				t.Errorf("4.2, R3: Take(%v) is %v, %d, %t", l, x, n, ok)
			}
			continue
		}
		if x != (api.Lock{Next: l.Next + 1, Turn: l.Turn}) || n != l.Next || !ok {
			t.Errorf("4.2: Take(%v) is %v, %d, %t", l, x, n, ok)
		}
	}
}

func TestTakeOfTheLastTicket(t *testing.T) {
	for _, turn := range []int{0, 5, far - 2, far - 1} {
		l, n, ok := Take(api.Lock{Next: far - 1, Turn: turn})
		if l != (api.Lock{Next: far, Turn: turn}) || n != far-1 || !ok {
			t.Errorf("4.2: Take at Next 2^61 - 1, Turn %d is %v, %d, %t", turn, l, n, ok)
		}
		if x, n, ok := Take(l); x != (api.Lock{}) || n != 0 || ok {
			t.Errorf("4.2: Take at Next 2^61, Turn %d is %v, %d, %t", turn, x, n, ok)
		}
		if !Held(l) || !Mine(l, turn) || Wait(l) != far-1-turn {
			t.Errorf("4.2: %v is not held by %d, or has the wrong number of tickets waiting: %d", l, turn, Wait(l))
		}
	}
	// Where nothing more can be taken, what was taken can still be left.
	l, ok := Leave(api.Lock{Next: far, Turn: far - 1})
	if l != (api.Lock{Next: far, Turn: far}) || !ok {
		t.Errorf("4.2: Leave of the last ticket is %v, %t", l, ok)
	}
	if x, ok := Leave(l); x != (api.Lock{}) || ok || Held(l) {
		t.Errorf("4.2: behind the last ticket Leave is %v, %t, and Held %t", x, ok, Held(l))
	}
}

func TestLocksThatAreHeld(t *testing.T) {
	for _, l := range locks() {
		if !valid(l) || l.Turn == l.Next {
			continue
		}
		if !Held(l) {
			t.Errorf("4.2: Held(%v) is false", l)
		}
		if n := Wait(l); n != waiting(l) {
			t.Errorf("4.2: Wait(%v) is %d", l, n)
		}
		if x, ok := Leave(l); x != (api.Lock{Next: l.Next, Turn: l.Turn + 1}) || !ok {
			t.Errorf("4.2: Leave(%v) is %v, %t", l, x, ok)
		}
		for _, ticket := range append(numbers(), l.Turn-1, l.Turn, l.Turn+1, l.Next-1, l.Next, l.Next+1) {
			if Mine(l, ticket) != (ticket == l.Turn) {
				t.Errorf("4.2: Mine(%v, %d) is %t", l, ticket, Mine(l, ticket))
			}
		}
	}
}

func TestLocksThatAreNotHeld(t *testing.T) {
	for _, n := range []int{0, 1, 2, 1 << 32, far - 1, far} {
		l := api.Lock{Next: n, Turn: n}
		if !May(l) || Held(l) || Wait(l) != 0 {
			t.Errorf("4.2: %v is valid: %t, held: %t, and %d wait", l, May(l), Held(l), Wait(l))
		}
		if x, ok := Leave(l); x != (api.Lock{}) || ok {
			t.Errorf("4.2, R3: Leave(%v) is %v, %t", l, x, ok)
		}
		for _, ticket := range append(numbers(), n-1, n, n+1) {
			if Mine(l, ticket) {
				t.Errorf("4.2: Mine(%v, %d) is true", l, ticket)
			}
		}
	}
}

// holder returns the one ticket among those that is Mine, and -1 if there is none.
func holder(t *testing.T, l api.Lock, tickets []int) int {
	t.Helper()
	found := -1
	for _, ticket := range tickets {
		if !Mine(l, ticket) {
			continue
		}
		if found >= 0 {
			t.Fatalf("4.3: it is the turn of %d and of %d", found, ticket)
		}
		found = ticket
	}
	return found
}

func TestAllTakeThenAllLeave(t *testing.T) {
	for _, first := range []int{0, 1, 1000, far - 50} {
		l := api.Lock{Next: first, Turn: first}
		tickets := []int{}
		for range 50 {
			x, n, ok := Take(l)
			if !ok {
				t.Fatalf("4.2: Take(%v) is refused", l)
			}
			l, tickets = x, append(tickets, n)
		}
		for i, ticket := range tickets {
			if got := holder(t, l, tickets); got != ticket {
				t.Fatalf("4.3: from %d on it is the turn of %d, not of %d", first, got, ticket)
			}
			if Wait(l) != 49-i {
				t.Errorf("4.2: %d wait behind ticket %d", Wait(l), ticket)
			}
			x, ok := Leave(l)
			if !ok {
				t.Fatalf("4.2: Leave(%v) is refused", l)
			}
			l = x
		}
		if Held(l) || holder(t, l, tickets) != -1 {
			t.Errorf("4.3: %v is held when all have left", l)
		}
	}
}

// queue is a plain list of tickets, the one whose turn it is in front.
type queue struct {
	given int
	line  []int
}

// step takes a ticket, or leaves, on a lock and on the queue, and holds them against each other.
func step(t *testing.T, l api.Lock, q *queue, take bool) api.Lock {
	t.Helper()
	if take {
		x, n, ok := Take(l)
		if !ok || n != q.given {
			t.Fatalf("4.3: Take(%v) gives %d, %t, not %d", l, n, ok, q.given)
		}
		q.line = append(q.line, n)
		q.given++
		return x
	}
	x, ok := Leave(l)
	if ok != (len(q.line) > 0) {
		t.Fatalf("4.2: Leave(%v) returns %t with %d in the queue", l, ok, len(q.line))
	}
	if !ok {
		return l
	}
	q.line = q.line[1:]
	return x
}

// TestHistory holds many Takes and Leaves, chosen by a fixed rule, against a plain queue.
func TestHistory(t *testing.T) {
	for _, odds := range []uint64{3, 4, 5, 6} {
		var l api.Lock
		q := &queue{}
		seed := uint64(88172645463325252)
		for i := range 5000 {
			seed ^= seed << 13
			seed ^= seed >> 7
			seed ^= seed << 17
			l = step(t, l, q, (seed>>20)%8 < odds)
			if !May(l) || Held(l) != (len(q.line) > 0) || Wait(l) != max(len(q.line)-1, 0) {
				t.Fatalf("4.2: step %d: %v beside a queue of %d", i, l, len(q.line))
			}
			for ticket := q.given - len(q.line) - 2; ticket < q.given+2; ticket++ {
				if Mine(l, ticket) != (len(q.line) > 0 && ticket == q.line[0]) {
					t.Fatalf("4.3: step %d: Mine(%v, %d) is %t", i, l, ticket, Mine(l, ticket))
				}
			}
		}
	}
}
