package size

import (
	"math"
	"testing"

	"rickyard/api"
)

const (
	least = math.MinInt64
	most  = math.MaxInt64
)

// row is a column of the chapter's table, and what follows from it.
type row struct {
	words, pages, per, batch, limit int
	small                           bool
}

// table is the chapter's table, written out, so that no rule of the code can hide behind itself.
func table() []row {
	return []row{
		{32, 8, 16, 4, 8, true},
		{64, 8, 8, 3, 6, true},
		{128, 8, 4, 2, 4, true},
		{256, 8, 2, 1, 2, true},
		{512, 8, 1, 0, 0, false},
		{1024, 16, 1, 0, 0, false},
		{2048, 32, 1, 0, 0, false},
		{4096, 64, 1, 0, 0, false},
	}
}

// answers asks all that is asked of a class.
func answers(class int) row {
	return row{Words(class), Pages(class), Per(class), Batch(class), Cap(class), Small(class)}
}

// noClasses are numbers that are not classes: beside the classes, those that a narrow integer
// or a shift takes for a class, and far out.
func noClasses() []int {
	list := []int{
		least, least + 1, least + 7, least + 8, -1 << 62, -1 << 32, -1<<32 + 1, -4096, -257, -256, -255,
		-128, -65, -64, -63, -32, -9, -8, -7, -5, -4, -3, -2, -1,
		8, 9, 10, 11, 12, 15, 16, 31, 32, 33, 56, 57, 58, 59, 60, 62, 63, 64, 65, 127, 128, 255, 256, 257, 259,
		4095, 4096, 4097, 65535, 65536, 65537, 1<<31 - 1, 1 << 31, 1<<32 - 1, 1 << 32, 1<<32 + 1, 1<<32 + 3,
		1 << 62, most - 8, most - 7, most - 1, most,
	}
	for n := api.Classes; n < 1000; n++ {
		list = append(list, n, -n)
	}
	return list
}

// classOf reads the class off the table.
func classOf(words int) (int, bool) {
	if words < 1 {
		return 0, false
	}
	for class, r := range table() {
		if r.words >= words {
			return class, true
		}
	}
	return 0, false
}

// hold compares Class with the table.
func hold(t *testing.T, words int) {
	t.Helper()
	class, ok := Class(words)
	want, is := classOf(words)
	if class != want || ok != is {
		t.Errorf("8.1: Class(%d) is %d, %v, want %d, %v", words, class, ok, want, is)
	}
}

func TestTable(t *testing.T) {
	if n := len(table()); n != api.Classes {
		t.Fatalf("8.1: the table has %d classes, and Classes is %d", n, api.Classes)
	}
	for class, want := range table() {
		if got := answers(class); got != want {
			t.Errorf("8.1: class %d is %+v, want %+v", class, got, want)
		}
	}
}

func TestNoClass(t *testing.T) {
	for _, class := range noClasses() {
		if got := answers(class); got != (row{}) {
			t.Errorf("8.1, R7: %d is not a class, and its answers are %+v", class, got)
		}
	}
}

func TestSmall(t *testing.T) {
	for class := -100; class <= 100; class++ {
		want := class == 0 || class == 1 || class == 2 || class == 3
		if Small(class) != want {
			t.Errorf("8.1: Small(%d) is %v", class, !want)
		}
	}
}

func TestClassOfEveryNumber(t *testing.T) {
	for words := 1; words <= api.MaxWords; words++ {
		hold(t, words)
		if _, ok := Class(words); !ok {
			t.Errorf("8.1: Class(%d) is false", words)
		}
	}
}

func TestClassIsTheLeast(t *testing.T) {
	for words := 1; words <= api.MaxWords; words++ {
		class, _ := Class(words)
		if Words(class) < words {
			t.Errorf("8.1: Class(%d) is %d, with %d words: too few", words, class, Words(class))
		}
		if class > 0 && Words(class-1) >= words {
			t.Errorf("8.1: Class(%d) is %d, and class %d has enough words", words, class, class-1)
		}
	}
}

func TestClassAtTheWordsOfEachClass(t *testing.T) {
	for class, r := range table() {
		hold(t, r.words-1)
		hold(t, r.words)
		hold(t, r.words+1)
		if got, ok := Class(r.words); got != class || !ok {
			t.Errorf("8.1: Class(%d) is %d, %v, want %d, true", r.words, got, ok, class)
		}
	}
}

func TestClassOfWrongNumbers(t *testing.T) {
	list := []int{
		0, api.MaxWords + 1, api.MaxWords + 2, 2*api.MaxWords - 1, 2 * api.MaxWords, 2*api.MaxWords + 1,
		65535, 65536, 65537, 1<<31 - 1, 1 << 31, 1<<32 - 1, 1 << 32, 1<<32 + 1, 1<<32 + 33,
		1<<62 - 1, 1 << 62, 1<<62 + 1, most - 31, most - 1, most,
		least, least + 1, least + 32, -1 << 62, -1 << 32, -1<<32 + 32, -4097, -4096, -4095, -33, -32, -31, -2, -1,
	}
	for n := 1; n <= 2*api.MaxWords; n++ {
		list = append(list, -n, api.MaxWords+n)
	}
	for _, words := range list {
		class, ok := Class(words)
		if ok {
			t.Errorf("8.1: Class(%d) is true", words)
		}
		if class != 0 {
			t.Errorf("R3: Class(%d) is %d beside false", words, class)
		}
	}
}

func TestTwiceAsManyWords(t *testing.T) {
	for class := 1; class < api.Classes; class++ {
		if Words(class) != 2*Words(class-1) {
			t.Errorf("8.2: class %d has %d words, and the one before it %d", class, Words(class), Words(class-1))
		}
	}
	if Words(0) != api.Unit || Words(api.Classes-1) != api.MaxWords {
		t.Errorf("8.1: the classes go from %d words to %d", Words(0), Words(api.Classes-1))
	}
}

func TestSpanHoldsItsStacks(t *testing.T) {
	for class := range api.Classes {
		room, stacks := Pages(class)*api.PageWords, Per(class)*Words(class)
		if room != stacks {
			t.Errorf("8.2: a span of class %d has %d words, and its stacks have %d", class, room, stacks)
		}
		if room == 0 {
			t.Errorf("8.2: a span of class %d has no words", class)
		}
		if Small(class) && Pages(class) != api.SpanPages {
			t.Errorf("8.1: a span of the small class %d has %d pages", class, Pages(class))
		}
		if !Small(class) && Per(class) != 1 {
			t.Errorf("8.1: a span of the large class %d has %d stacks", class, Per(class))
		}
	}
}

func TestCapIsTwiceTheBatch(t *testing.T) {
	for _, class := range append(noClasses(), 0, 1, 2, 3, 4, 5, 6, 7) {
		if Cap(class) != 2*Batch(class) {
			t.Errorf("8.1: Cap(%d) is %d, and Batch %d", class, Cap(class), Batch(class))
		}
	}
}

func TestSameAnswersAgain(t *testing.T) {
	for _, n := range append(noClasses(), 0, 1, 2, 3, 4, 5, 6, 7) {
		first := answers(n)
		class, ok := Class(n)
		if again, is := Class(n); answers(n) != first || again != class || is != ok {
			t.Errorf("R1: the answers for %d are not the same again", n)
		}
	}
}

func TestExamples(t *testing.T) {
	if class, ok := Class(33); class != 1 || !ok {
		t.Errorf("8.1: Class(33) is %d, %v", class, ok)
	}
	if n := Words(8); n != 0 {
		t.Errorf("8.1: Words(8) is %d", n)
	}
	if Small(4) {
		t.Error("8.1: Small(4) is true")
	}
	if n := Pages(7); n != 64 {
		t.Errorf("8.1: Pages(7) is %d", n)
	}
	if n := Per(0); n != 16 {
		t.Errorf("8.1: Per(0) is %d", n)
	}
	if n := Batch(3); n != 1 {
		t.Errorf("8.1: Batch(3) is %d", n)
	}
	if n := Cap(0); n != 8 {
		t.Errorf("8.1: Cap(0) is %d", n)
	}
}
