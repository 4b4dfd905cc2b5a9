package fix

import (
	"math"
	"math/big"
	"slices"
	"testing"
)

const (
	least    = math.MinInt64
	greatest = math.MaxInt64
)

// numbers are ordinary ones, and those at and beside each power of two, on both sides of 0.
func numbers() []int {
	list := []int{least, least + 1, least + 2, greatest - 2, greatest - 1, greatest, 123456789, -987654321, 0x0123456789abcdef, -0x0123456789abcdef}
	for n := -9; n <= 9; n++ {
		list = append(list, n)
	}
	for shift := 4; shift <= 62; shift++ {
		for _, times := range []int{1, 3, -1, -3} {
			n := times << shift
			list = append(list, n-1, n, n+1)
		}
	}
	return list
}

func wide(n int) *big.Int { return big.NewInt(int64(n)) }

// told is what a call must answer whose result, in numbers without bounds, is n.
func told(n *big.Int) (int, bool) {
	if !n.IsInt64() {
		return 0, false
	}
	return int(n.Int64()), true
}

func wideSum(l []int) *big.Int {
	sum := new(big.Int)
	for _, n := range l {
		sum.Add(sum, wide(n))
	}
	return sum
}

// wideShift needs a by from -200 to 200: beyond them the expected results are written out.
func wideShift(n, by int) *big.Int {
	if by >= 0 {
		return new(big.Int).Lsh(wide(n), uint(by))
	}
	// Div rounds down where what it divides by is above 0.
	return new(big.Int).Div(wide(n), new(big.Int).Lsh(big.NewInt(1), uint(-by)))
}

func TestAddAndSubAreThoseOfNumbersWithoutBounds(t *testing.T) {
	for _, a := range numbers() {
		for _, b := range numbers() {
			want, wantOK := told(new(big.Int).Add(wide(a), wide(b)))
			if got, ok := Add(a, b); got != want || ok != wantOK {
				t.Errorf("Add(%d, %d) = %d, %v", a, b, got, ok)
			}
			want, wantOK = told(new(big.Int).Sub(wide(a), wide(b)))
			if got, ok := Sub(a, b); got != want || ok != wantOK {
				t.Errorf("Sub(%d, %d) = %d, %v", a, b, got, ok)
			}
		}
	}
}

func TestAddAtItsEdges(t *testing.T) {
	for _, c := range []struct {
		a, b, want int
		ok         bool
	}{
		{2, 3, 5, true}, {2, -3, -1, true}, {0, 0, 0, true},
		{greatest, 1, 0, false}, {1, greatest, 0, false}, {greatest, 0, greatest, true}, {greatest - 1, 1, greatest, true},
		{least, -1, 0, false}, {-1, least, 0, false}, {least, 0, least, true}, {least + 1, -1, least, true},
		{greatest, greatest, 0, false}, {least, least, 0, false}, {greatest, least, -1, true}, {least, greatest, -1, true},
		{1 << 62, 1 << 62, 0, false}, {-1 << 62, -1 << 62, least, true}, {-1 << 62, -1<<62 - 1, 0, false},
	} {
		if got, ok := Add(c.a, c.b); got != c.want || ok != c.ok {
			t.Errorf("Add(%d, %d) = %d, %v", c.a, c.b, got, ok)
		}
	}
}

func TestSubAtItsEdges(t *testing.T) {
	for _, c := range []struct {
		a, b, want int
		ok         bool
	}{
		{2, 3, -1, true}, {2, -3, 5, true}, {0, 0, 0, true},
		{least, 1, 0, false}, {least + 1, 1, least, true}, {least, 0, least, true}, {least, -1, least + 1, true},
		{greatest, -1, 0, false}, {greatest - 1, -1, greatest, true}, {greatest, 0, greatest, true},
		{0, least, 0, false}, {-1, least, greatest, true}, {1, least, 0, false}, {0, greatest, least + 1, true},
		{-1, greatest, least, true}, {-2, greatest, 0, false},
		{least, least, 0, true}, {greatest, greatest, 0, true}, {least, greatest, 0, false}, {greatest, least, 0, false},
	} {
		if got, ok := Sub(c.a, c.b); got != c.want || ok != c.ok {
			t.Errorf("Sub(%d, %d) = %d, %v", c.a, c.b, got, ok)
		}
	}
}

func TestSumOfNothingAndOfOne(t *testing.T) {
	for _, l := range [][]int{nil, {}, make([]int, 0, 4)} {
		if got, ok := Sum(l...); got != 0 || !ok {
			t.Errorf("Sum of nothing = %d, %v", got, ok)
		}
	}
	if got, ok := Sum(); got != 0 || !ok {
		t.Errorf("Sum() = %d, %v", got, ok)
	}
	for _, n := range numbers() {
		if got, ok := Sum(n); got != n || !ok {
			t.Errorf("Sum(%d) = %d, %v", n, got, ok)
		}
	}
}

func TestSumOfTwoAndOfThree(t *testing.T) {
	few := []int{least, least + 1, -1 << 62, -1 << 32, -2, -1, 0, 1, 2, 1<<32 - 1, 1 << 32, 1 << 62, greatest - 1, greatest}
	for _, a := range few {
		for _, b := range few {
			checkSum(t, []int{a, b})
			for _, c := range few {
				checkSum(t, []int{a, b, c})
			}
		}
	}
}

func checkSum(t *testing.T, l []int) {
	t.Helper()
	want, wantOK := told(wideSum(l))
	if got, ok := Sum(l...); got != want || ok != wantOK {
		t.Errorf("Sum(%v) = %d, %v, not %d, %v", l, got, ok, want, wantOK)
	}
}

// What is too great on the way alone doesn't matter: every order of one list gives one answer.
func TestSumInEveryOrder(t *testing.T) {
	for _, c := range []struct {
		l    []int
		want int
		ok   bool
	}{
		{[]int{greatest, 1, -1}, greatest, true},
		{[]int{least, -1, 1}, least, true},
		{[]int{greatest, greatest, least, least}, -2, true},
		{[]int{greatest, greatest, greatest, least, least, least}, -3, true},
		{[]int{greatest, greatest, least, 1}, greatest, true},
		{[]int{greatest, greatest, least, 2}, 0, false},
		{[]int{least, least, greatest, 1}, least, true},
		{[]int{least, least, greatest, 0}, 0, false},
		{[]int{greatest, greatest, 2}, 0, false},
		{[]int{least, least}, 0, false},
		{[]int{least, least, 7}, 0, false},
		{[]int{5, -7, 9, 0}, 7, true},
	} {
		everyOrder(slices.Clone(c.l), 0, func(l []int) {
			if got, ok := Sum(l...); got != c.want || ok != c.ok {
				t.Errorf("Sum(%v) = %d, %v", l, got, ok)
			}
		})
	}
}

func everyOrder(l []int, from int, do func([]int)) {
	if from == len(l) {
		do(l)
		return
	}
	for i := from; i < len(l); i++ {
		l[from], l[i] = l[i], l[from]
		everyOrder(l, from+1, do)
		l[from], l[i] = l[i], l[from]
	}
}

func TestSumOfMany(t *testing.T) {
	const many = 1 << 20
	up, down := slices.Repeat([]int{greatest}, many), slices.Repeat([]int{least}, many)
	checkSum(t, up)
	checkSum(t, down)
	checkSum(t, slices.Concat(up, down))
	checkSum(t, slices.Concat(down, up))
	checkSum(t, slices.Concat(up, down, []int{greatest, many}))
	checkSum(t, slices.Concat(up, down, []int{greatest, many + 1}))
	// The low word comes to 0 here: the high word alone tells.
	checkSum(t, slices.Repeat([]int{-1 << 62}, 4))
	checkSum(t, slices.Repeat([]int{1 << 62}, 4))
	checkSum(t, numbers())
}

func TestSumChangesNothing(t *testing.T) {
	room := []int{greatest, 1, -1, 77, 78}
	before := slices.Clone(room)
	Sum(room[:3]...)
	if !slices.Equal(room, before) {
		t.Errorf("Sum left %v", room)
	}
}

func TestShiftIsThatOfNumbersWithoutBounds(t *testing.T) {
	for _, n := range numbers() {
		for by := -130; by <= 130; by++ {
			want, wantOK := told(wideShift(n, by))
			if got, ok := Shift(n, by); got != want || ok != wantOK {
				t.Errorf("Shift(%d, %d) = %d, %v", n, by, got, ok)
			}
		}
	}
}

func TestShiftAtItsEdges(t *testing.T) {
	for _, c := range []struct {
		n, by, want int
		ok          bool
	}{
		{7, 0, 7, true}, {least, 0, least, true}, {greatest, 0, greatest, true},
		{1, 62, 1 << 62, true}, {2, 62, 0, false}, {-2, 62, least, true}, {-3, 62, 0, false},
		{1, 63, 0, false}, {2, 63, 0, false}, {-1, 63, least, true}, {-2, 63, 0, false},
		{1, 64, 0, false}, {-1, 64, 0, false}, {greatest, 64, 0, false}, {least, 64, 0, false},
		{least, 1, 0, false}, {greatest, 1, 0, false}, {greatest >> 1, 1, greatest - 1, true}, {least >> 1, 1, least, true},
		{greatest, -62, 1, true}, {least, -62, -2, true}, {1, -62, 0, true}, {-1, -62, -1, true},
		{greatest, -63, 0, true}, {least, -63, -1, true}, {greatest, -64, 0, true}, {least, -64, -1, true},
		{7, -2, 1, true}, {-7, -2, -2, true}, {-8, -2, -2, true}, {-9, -2, -3, true},
	} {
		if got, ok := Shift(c.n, c.by); got != c.want || ok != c.ok {
			t.Errorf("Shift(%d, %d) = %d, %v", c.n, c.by, got, ok)
		}
	}
}

func TestShiftByAnyInt(t *testing.T) {
	for _, by := range []int{64, 65, 127, 128, 129, 255, 256, 1<<32 - 1, 1 << 32, 1<<32 + 1, 1 << 62, greatest - 1, greatest} {
		for _, n := range numbers() {
			want, wantOK := 0, n == 0
			if got, ok := Shift(n, by); got != want || ok != wantOK {
				t.Errorf("Shift(%d, %d) = %d, %v", n, by, got, ok)
			}
		}
	}
	for _, by := range []int{-64, -65, -128, -256, -1 << 32, -1<<32 - 1, -1 << 62, least + 1, least} {
		for _, n := range numbers() {
			want := 0
			if n < 0 {
				want = -1
			}
			if got, ok := Shift(n, by); got != want || !ok {
				t.Errorf("Shift(%d, %d) = %d, %v", n, by, got, ok)
			}
		}
	}
}

func TestZeroShiftedByAnything(t *testing.T) {
	for _, by := range append(numbers(), 99, -99) {
		if got, ok := Shift(0, by); got != 0 || !ok {
			t.Errorf("Shift(0, %d) = %d, %v", by, got, ok)
		}
	}
}

func TestRunsOfTheChapter(t *testing.T) {
	if got, ok := Add(greatest, 1); got != 0 || ok {
		t.Errorf("Add of the greatest int and 1 = %d, %v", got, ok)
	}
	if got, ok := Sum(greatest, 1, -1); got != greatest || !ok {
		t.Errorf("Sum of the greatest int, 1, -1 = %d, %v", got, ok)
	}
	for _, c := range []struct {
		n, by, want int
		ok          bool
	}{{3, 2, 12, true}, {-3, -1, -2, true}, {1, 63, 0, false}, {-1, 63, least, true}, {0, 99, 0, true}} {
		if got, ok := Shift(c.n, c.by); got != c.want || ok != c.ok {
			t.Errorf("Shift(%d, %d) = %d, %v", c.n, c.by, got, ok)
		}
	}
}
