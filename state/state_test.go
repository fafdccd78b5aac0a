package state

import (
	"math"
	"slices"
	"strconv"
	"testing"

	"rickyard/api"
)

const (
	least = math.MinInt64
	most  = math.MaxInt64
)

// row is a valid status, its parts, and where it goes: -1 where it does not go.
type row struct {
	w, state          int
	scan, ask         bool
	move              [5]int
	asks, begins, end int
}

// table is every valid status, written out by the words of the chapter, so that no rule of the code can hide behind itself.
func table() []row {
	return []row{
		{0, 0, false, false, [5]int{-1, 1, -1, 3, -1}, -1, 8, -1},
		{1, 1, false, false, [5]int{0, -1, 2, 3, 4}, 17, -1, -1},
		{2, 2, false, false, [5]int{0, -1, -1, 3, -1}, -1, 10, -1},
		{3, 3, false, false, [5]int{0, 1, 2, -1, 4}, -1, -1, -1},
		{4, 4, false, false, [5]int{-1, -1, -1, -1, -1}, -1, -1, -1},
		{8, 0, true, false, [5]int{-1, -1, -1, -1, -1}, -1, -1, 0},
		{10, 2, true, false, [5]int{-1, -1, -1, -1, -1}, -1, -1, 2},
		{16, 0, false, true, [5]int{-1, -1, -1, -1, -1}, -1, 8, -1},
		{17, 1, false, true, [5]int{16, -1, -1, -1, -1}, -1, -1, -1},
	}
}

// find looks up the row of a status, and whether it is valid at all.
func find(w int) (row, bool) {
	for _, r := range table() {
		if r.w == w {
			return r, true
		}
	}
	return row{}, false
}

// parts is what a status is made of, as the calls tell it.
type parts struct {
	valid     bool
	state     int
	scan, ask bool
}

// askAll asks for all parts of a status.
func askAll(w int) parts {
	return parts{May(w), State(w), Scan(w), Asked(w)}
}

// want reads all parts of a status off the table.
func want(w int) parts {
	r, ok := find(w)
	if !ok {
		return parts{false, -1, false, false}
	}
	return parts{true, r.state, r.scan, r.ask}
}

// numbers are the integers around all statuses, those that a narrow integer or a remainder takes
// for a status, and those far out.
func numbers() []int {
	list := []int{
		least, least + 1, least + 2, least + 8, least + 16, least + 17, most - 31, most - 23, most - 16, most - 1, most,
		1 << 62, -1 << 62, 1<<62 + 1, 1<<62 + 8, -1<<62 + 17,
		127, 128, 129, 136, 144, 145, 255, 256, 257, 258, 264, 266, 272, 273, -128, -127, -256, -255, -248, -240, -239,
		65536, 65537, 65544, 65552, 65553, -65536, -65535, -65528,
		1<<31 - 1, 1 << 31, 1<<31 + 1, 1 << 32, 1<<32 + 1, 1<<32 + 8, 1<<32 + 16, 1<<32 + 17, -1 << 31, -1 << 32, -1<<32 + 1,
		1 << 40, 1<<40 + 1, -1<<40 + 8,
	}
	for w := -40; w <= 70; w++ {
		list = append(list, w)
	}
	return list
}

// targets are the integers that stand as the state of a move, or of a status that is made.
func targets() []int {
	list := []int{
		least, least + 1, least + 2, least + 3, least + 4, most - 4, most - 1, most,
		1 << 32, 1<<32 + 1, 1<<32 + 3, -1 << 32, 1<<31 - 1, 1 << 62, 256, 257, 258, 260, -256, -255,
	}
	for to := -10; to <= 40; to++ {
		list = append(list, to)
	}
	return list
}

// bools are both of them.
func bools() []bool {
	return []bool{false, true}
}

// hold compares what a call told of a status with what the table has, -1 being that it does not go.
func hold(t *testing.T, promise, call string, w, got int, done bool, to int) {
	t.Helper()
	if to < 0 {
		if got != w || done {
			t.Errorf("%s: %s of %d is %d, %v, want %d, false", promise, call, w, got, done, w)
		}
		return
	}
	if got != to || !done {
		t.Errorf("%s: %s of %d is %d, %v, want %d, true", promise, call, w, got, done, to)
	}
}

// plainMove reads a move off the table, -1 being that there is none.
func plainMove(w, to int) int {
	r, ok := find(w)
	if !ok || to < 0 || to > 4 {
		return -1
	}
	return r.move[to]
}

// plainAsk, plainBegin and plainEnd read Ask, Begin and End off the table, -1 being that nothing is done.
func plainAsk(w int) int {
	if r, ok := find(w); ok {
		return r.asks
	}
	return -1
}

func plainBegin(w int) int {
	if r, ok := find(w); ok {
		return r.begins
	}
	return -1
}

func plainEnd(w int) int {
	if r, ok := find(w); ok {
		return r.end
	}
	return -1
}

// deed is a call that changes a status, and what the table has for it.
type deed struct {
	promise, name string
	do            func(int) (int, bool)
	plain         func(int) int
}

// deeds are all calls that change a status: Ask, Begin, End, and Move to each state and to some that are none.
func deeds() []deed {
	list := []deed{
		{"16.3", "Ask", Ask, plainAsk},
		{"16.3", "Begin", Begin, plainBegin},
		{"16.3", "End", End, plainEnd},
	}
	for to := -1; to <= 5; to++ {
		list = append(list, deed{
			"16.2", "Move to " + strconv.Itoa(to),
			func(w int) (int, bool) { return Move(w, to) },
			func(w int) int { return plainMove(w, to) },
		})
	}
	return list
}

func TestExamples(t *testing.T) {
	if w := Make(0, true, false); w != 8 {
		t.Errorf("16.1: Make(0, true, false) is %d", w)
	}
	if May(24) {
		t.Error("16.1: May(24) is true")
	}
	if s := State(17); s != 1 {
		t.Errorf("16.1: State(17) is %d", s)
	}
	if !Scan(8) {
		t.Error("16.1: Scan(8) is false")
	}
	if !Asked(17) {
		t.Error("16.1: Asked(17) is false")
	}
	if w, ok := Move(17, 0); w != 16 || !ok {
		t.Errorf("16.2: Move(17, 0) is %d, %v", w, ok)
	}
	if w, ok := Ask(1); w != 17 || !ok {
		t.Errorf("16.3: Ask(1) is %d, %v", w, ok)
	}
	if w, ok := Begin(16); w != 8 || !ok {
		t.Errorf("16.3: Begin(16) is %d, %v", w, ok)
	}
	if w, ok := End(8); w != 0 || !ok {
		t.Errorf("16.3: End(8) is %d, %v", w, ok)
	}
}

// The numbers of the chapter are those of api, so the table may speak in numbers.
func TestStatesAreThoseOfTheChapter(t *testing.T) {
	if got := []int{api.Idle, api.Running, api.Waiting, api.Copying, api.Dead}; !slices.Equal(got, []int{0, 1, 2, 3, 4}) {
		t.Errorf("16.1: the states are %v", got)
	}
}

// The table itself agrees with the words of 16.1, for all numbers that the parts add up to.
func TestTableIsTheChapters(t *testing.T) {
	for state := 0; state <= 4; state++ {
		for _, scan := range bools() {
			for _, ask := range bools() {
				w := state
				if scan {
					w += 8
				}
				if ask {
					w += 16
				}
				valid := (!scan || state == 0 || state == 2) && (!ask || state == 1 || state == 0) && !(scan && ask)
				r, ok := find(w)
				if ok != valid || ok && (r.state != state || r.scan != scan || r.ask != ask) {
					t.Errorf("16.1: the table has %+v, %v for %d", r, ok, w)
				}
			}
		}
	}
	if n := len(table()); n != 9 {
		t.Errorf("16.1: the table has %d rows", n)
	}
}

func TestMake(t *testing.T) {
	for _, state := range append(targets(), numbers()...) {
		for _, scan := range bools() {
			for _, ask := range bools() {
				is := -1
				for _, r := range table() {
					if r.state == state && r.scan == scan && r.ask == ask {
						is = r.w
					}
				}
				if w := Make(state, scan, ask); w != is {
					t.Errorf("16.1: Make(%d, %v, %v) is %d, want %d", state, scan, ask, w, is)
				}
			}
		}
	}
}

// A status is no state, so nothing is made of one.
func TestMakeOfStatuses(t *testing.T) {
	for _, w := range []int{8, 10, 16, 17, 9, 11, 12, 18, 24, 26} {
		for _, scan := range bools() {
			for _, ask := range bools() {
				if got := Make(w, scan, ask); got != -1 {
					t.Errorf("16.1: Make(%d, %v, %v) is %d, and %d is no state", w, scan, ask, got, w)
				}
			}
		}
	}
}

func TestParts(t *testing.T) {
	for _, w := range numbers() {
		if got, is := askAll(w), want(w); got != is {
			t.Errorf("16.1: May, State, Scan and Asked of %d are %+v, want %+v", w, got, is)
		}
	}
}

// No number from -100000 to 100000 is a status beside the nine.
func TestPartsOfManyNumbers(t *testing.T) {
	valid := make(map[int]row)
	for _, r := range table() {
		valid[r.w] = r
	}
	for w := -100000; w <= 100000; w++ {
		r, ok := valid[w]
		is := parts{ok, r.state, r.scan, r.ask}
		if !ok {
			is.state = -1
		}
		if got := askAll(w); got != is {
			t.Errorf("16.1, R7: May, State, Scan and Asked of %d are %+v, want %+v", w, got, is)
		}
	}
}

// A status of which one bit is turned is valid only if the table has it.
func TestBits(t *testing.T) {
	for _, r := range table() {
		for bit := range 64 {
			w := r.w ^ (1 << bit)
			if got, is := askAll(w), want(w); got != is {
				t.Errorf("16.1, R7: May, State, Scan and Asked of %d are %+v, want %+v", w, got, is)
			}
			for _, d := range deeds() {
				got, done := d.do(w)
				hold(t, d.promise+", R7", d.name, w, got, done, d.plain(w))
			}
		}
	}
}

// What the chapter does not allow is not valid, and has no parts.
func TestWhatIsNotValid(t *testing.T) {
	list := []int{least, least + 8, -32, -24, -16, -15, -8, -1, 5, 6, 7, 9, 11, 12, 13, 14, 15, 18, 19, 20, 21, 22, 23}
	for w := 24; w <= 70; w++ {
		list = append(list, w)
	}
	for _, w := range append(list, most-7, most) {
		if got := askAll(w); got != (parts{false, -1, false, false}) {
			t.Errorf("16.1: %d is not valid, and its parts are %+v", w, got)
		}
	}
}

// A status that Make tells is valid and has the parts that it was made of; every valid one is made of its parts.
func TestMakeAndParts(t *testing.T) {
	made := make(map[int]int)
	for _, state := range targets() {
		for _, scan := range bools() {
			for _, ask := range bools() {
				w := Make(state, scan, ask)
				if w == -1 {
					continue
				}
				made[w]++
				if got := askAll(w); got != (parts{true, state, scan, ask}) {
					t.Errorf("16.1: Make(%d, %v, %v) is %d, and its parts are %+v", state, scan, ask, w, got)
				}
			}
		}
	}
	for _, w := range numbers() {
		if !May(w) {
			continue
		}
		if made[w] != 1 {
			t.Errorf("16.1: %d is valid, and %d of the parts make it", w, made[w])
		}
		if got := Make(State(w), Scan(w), Asked(w)); got != w {
			t.Errorf("16.1: %d is valid, and its parts make %d", w, got)
		}
	}
	if len(made) != len(table()) {
		t.Errorf("16.1: Make tells %d statuses, want %d", len(made), len(table()))
	}
}

func TestMove(t *testing.T) {
	for _, w := range numbers() {
		for _, to := range append(targets(), w) {
			got, done := Move(w, to)
			hold(t, "16.2", "Move", w, got, done, plainMove(w, to))
		}
	}
}

// The cases of 16.2, written out as the chapter lists them.
func TestMoveCases(t *testing.T) {
	cases := [][2]int{
		{0, 1}, {0, 3},
		{1, 0}, {1, 2}, {1, 3}, {1, 4},
		{2, 0}, {2, 3},
		{3, 1}, {3, 0}, {3, 2}, {3, 4},
	}
	for from := 0; from <= 4; from++ {
		for to := -10; to <= 40; to++ {
			is := -1
			if slices.Contains(cases, [2]int{from, to}) {
				is = to
			}
			got, done := Move(from, to)
			hold(t, "16.2", "Move", from, got, done, is)
		}
	}
}

func TestMoveToItsOwnState(t *testing.T) {
	for _, r := range table() {
		for _, to := range []int{r.w, r.state} {
			got, done := Move(r.w, to)
			hold(t, "16.2", "Move", r.w, got, done, -1)
		}
	}
}

func TestMoveOfAsked(t *testing.T) {
	for _, to := range targets() {
		got, done := Move(16, to)
		hold(t, "16.2", "Move", 16, got, done, -1)
		got, done = Move(17, to)
		if to == 0 {
			hold(t, "16.2", "Move", 17, got, done, 16)
			if !Asked(got) || State(got) != 0 {
				t.Errorf("16.2: an asked task stops, and is %d", got)
			}
			continue
		}
		hold(t, "16.2", "Move", 17, got, done, -1)
	}
}

func TestMoveOfScanned(t *testing.T) {
	for _, w := range []int{8, 10} {
		for _, to := range targets() {
			got, done := Move(w, to)
			hold(t, "16.2, 16.4", "Move", w, got, done, -1)
		}
	}
}

func TestMoveOfDead(t *testing.T) {
	for _, w := range []int{4, 12, 20, 28} {
		for _, to := range targets() {
			got, done := Move(w, to)
			hold(t, "16.2", "Move", w, got, done, -1)
		}
	}
}

// A move has the state that it was asked for, and keeps what else the status was.
func TestMoveTellsTheState(t *testing.T) {
	for _, r := range table() {
		for to := 0; to <= 4; to++ {
			got, done := Move(r.w, to)
			if done && (State(got) != to || Scan(got) || Asked(got) != r.ask) {
				t.Errorf("16.2: Move(%d, %d) is %d: its parts are %+v", r.w, to, got, askAll(got))
			}
		}
	}
}

func TestAskBeginEnd(t *testing.T) {
	for _, w := range numbers() {
		got, done := Ask(w)
		hold(t, "16.3", "Ask", w, got, done, plainAsk(w))
		got, done = Begin(w)
		hold(t, "16.3", "Begin", w, got, done, plainBegin(w))
		got, done = End(w)
		hold(t, "16.3", "End", w, got, done, plainEnd(w))
	}
}

// Each of Ask, Begin and End is done for these statuses alone.
func TestAskBeginEndCases(t *testing.T) {
	ask, begin, end := map[int]int{1: 17}, map[int]int{0: 8, 2: 10, 16: 8}, map[int]int{8: 0, 10: 2}
	for w := -40; w <= 70; w++ {
		for _, c := range []struct {
			name  string
			do    func(int) (int, bool)
			cases map[int]int
		}{{"Ask", Ask, ask}, {"Begin", Begin, begin}, {"End", End, end}} {
			to, ok := c.cases[w]
			if !ok {
				to = -1
			}
			got, done := c.do(w)
			hold(t, "16.3", c.name, w, got, done, to)
		}
	}
}

// What was done with true is not done a second time by the same call.
func TestTheSameTwice(t *testing.T) {
	for _, w := range numbers() {
		for _, d := range deeds() {
			once, done := d.do(w)
			twice, again := d.do(once)
			if again || twice != once {
				t.Errorf("%s: %s of %d is %d, %v, and then %d, %v", d.promise, d.name, w, once, done, twice, again)
			}
		}
	}
}

// What is told with true is valid and another status; what is told with false is the number itself.
func TestWhatIsTold(t *testing.T) {
	for _, w := range numbers() {
		for _, d := range deeds() {
			got, done := d.do(w)
			if done && (!May(w) || !May(got) || got == w) {
				t.Errorf("%s: %s of %d is %d, true", d.promise, d.name, w, got)
			}
			if !done && got != w {
				t.Errorf("%s: %s of %d is %d, false", d.promise, d.name, w, got)
			}
		}
	}
}

// A scan begins, and its end leaves the task in its state, not asked any more.
func TestScanBeginsAndEnds(t *testing.T) {
	for _, w := range []int{0, 2, 16} {
		in, ok := Begin(w)
		if !ok || !Scan(in) || Asked(in) || State(in) != State(w) {
			t.Errorf("16.3: Begin(%d) is %d, %v", w, in, ok)
		}
		out, ok := End(in)
		if !ok || out != State(w) {
			t.Errorf("16.3: Begin(%d) and End is %d, %v", w, out, ok)
		}
	}
}

// follow does the deeds of a row, one after the other, each held against the table and against
// what a scan promises: while it lasts, nothing but its end changes the status.
func follow(t *testing.T, w int, picks []int) int {
	t.Helper()
	list := deeds()
	for _, pick := range picks {
		d := list[pick%len(list)]
		got, done := d.do(w)
		hold(t, d.promise, d.name, w, got, done, d.plain(w))
		if Scan(w) && d.name != "End" && (done || got != w) {
			t.Errorf("16.4: %d is scanned, and %s makes it %d", w, d.name, got)
		}
		if Scan(w) && State(got) != State(w) {
			t.Errorf("16.4: %d is scanned, and %s moves it to %d", w, d.name, got)
		}
		if is := want(got); !is.valid || askAll(got) != is {
			t.Errorf("16.1: %s of %d is %d, and its parts are %+v", d.name, w, got, askAll(got))
		}
		w = got
	}
	return w
}

func TestAllShortHistories(t *testing.T) {
	n := len(deeds())
	for _, r := range table() {
		for i := range n * n * n {
			follow(t, r.w, []int{i % n, i / n % n, i / n / n})
		}
	}
}

// The steps follow one fixed rule, so that every run makes the same ones.
func TestHistory(t *testing.T) {
	seed := uint64(88172645463325252)
	met := make(map[int]int)
	for _, r := range table() {
		w := r.w
		for range 20000 {
			seed ^= seed << 13
			seed ^= seed >> 7
			seed ^= seed << 17
			w = follow(t, w, []int{int(seed >> 33)})
			met[w]++
			if w == api.Dead {
				w = r.w
			}
		}
	}
	for _, r := range table() {
		if met[r.w] == 0 {
			t.Errorf("the history has not met %d", r.w)
		}
	}
}

// What a scan promises over any row of calls: between Begin and End the state is the same, whatever is called.
func TestScannedStays(t *testing.T) {
	for _, w := range []int{8, 10} {
		now := w
		for range 10 {
			for _, to := range targets() {
				now, _ = Move(now, to)
				now, _ = Ask(now)
				now, _ = Begin(now)
			}
		}
		if now != w {
			t.Errorf("16.4: %d is scanned, and has become %d", w, now)
		}
		if out, ok := End(now); !ok || out != State(w) {
			t.Errorf("16.4: the scan of %d ends with %d, %v", w, out, ok)
		}
	}
}

func TestAnswersRepeat(t *testing.T) {
	for _, w := range numbers() {
		parts, list := askAll(w), deeds()
		for _, d := range list {
			got, done := d.do(w)
			if now, again := d.do(w); now != got || again != done {
				t.Errorf("R1: %s of %d is %d, %v, and then %d, %v", d.name, w, got, done, now, again)
			}
		}
		if now := askAll(w); now != parts {
			t.Errorf("R1: the parts of %d are %+v, and then %+v", w, parts, now)
		}
	}
}
