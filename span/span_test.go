package span

import (
	"math"
	"math/big"
	"testing"

	"copse/api"
)

const (
	least    = math.MinInt64
	greatest = math.MaxInt64
)

func of(lo, hi int) api.Span { return api.Span{Lo: lo, Hi: hi} }

// ends are where spans of the tests begin and end: near 0, near 2^32 and 2^62, and at the edges of int.
func ends() []int {
	list := []int{1<<32 - 1, 1 << 32, -1 << 32, 1 << 62, -1 << 62, 1<<62 - 1, -1<<62 - 1}
	for n := range 4 {
		list = append(list, least+n, greatest-n)
	}
	for n := -5; n <= 5; n++ {
		list = append(list, n)
	}
	return list
}

// spans have each two of the ends, so that as many are empty as are not.
func spans() []api.Span {
	var list []api.Span
	for _, lo := range ends() {
		for _, hi := range ends() {
			list = append(list, of(lo, hi))
		}
	}
	return list
}

// below and above are no numbers of a small span.
const below, above = -5, 5

// small are spans near 0, whose numbers the tests may go through one by one.
func small() []api.Span {
	var list []api.Span
	for lo := below + 1; lo < above; lo++ {
		for hi := below + 1; hi < above; hi++ {
			list = append(list, of(lo, hi))
		}
	}
	return list
}

func wide(n int) *big.Int { return big.NewInt(int64(n)) }

func TestEmpty(t *testing.T) {
	for _, c := range []struct {
		s    api.Span
		want bool
	}{
		{of(1, 9), false}, {of(-9, -1), false}, {of(-3, 5), false},
		{of(4, 4), false}, {of(0, 0), false}, {of(-4, -4), false}, {of(least, least), false}, {of(greatest, greatest), false},
		{of(1, 0), true}, {of(5, 4), true}, {of(9, 1), true}, {of(0, -1), true}, {of(3, -3), true}, {of(-1, -2), true},
		{of(least, greatest), false}, {of(greatest, least), true}, {of(least, 0), false}, {of(0, least), true},
		{of(0, greatest), false}, {of(greatest, 0), true}, {of(least+1, least), true}, {of(greatest, greatest-1), true},
		{of(least, least+1), false}, {of(greatest-1, greatest), false}, {of(1<<62, -1<<62), true}, {of(-1<<62, 1<<62), false},
	} {
		if got := Empty(c.s); got != c.want {
			t.Errorf("Empty(%v) = %v", c.s, got)
		}
	}
}

func TestHasAtTheEndsAndBesideThem(t *testing.T) {
	for _, c := range []struct {
		s    api.Span
		n    int
		want bool
	}{
		{of(-3, 5), -4, false}, {of(-3, 5), -3, true}, {of(-3, 5), -2, true}, {of(-3, 5), 0, true},
		{of(-3, 5), 4, true}, {of(-3, 5), 5, true}, {of(-3, 5), 6, false},
		{of(4, 4), 3, false}, {of(4, 4), 4, true}, {of(4, 4), 5, false},
		{of(1, 0), 0, false}, {of(1, 0), 1, false}, {of(9, 1), 1, false}, {of(9, 1), 5, false}, {of(9, 1), 9, false},
		{of(least, greatest), least, true}, {of(least, greatest), 0, true}, {of(least, greatest), greatest, true},
		{of(least+1, greatest-1), least, false}, {of(least+1, greatest-1), least + 1, true},
		{of(least+1, greatest-1), greatest - 1, true}, {of(least+1, greatest-1), greatest, false},
		{of(least, least), least, true}, {of(least, least), least + 1, false}, {of(least, least), greatest, false},
		{of(greatest, greatest), greatest, true}, {of(greatest, greatest), greatest - 1, false}, {of(greatest, greatest), least, false},
		{of(greatest, least), greatest, false}, {of(greatest, least), least, false}, {of(greatest, least), 0, false},
		{of(5, 9), least, false}, {of(-9, -5), greatest, false},
	} {
		if got := Has(c.s, c.n); got != c.want {
			t.Errorf("Has(%v, %d) = %v", c.s, c.n, got)
		}
	}
}

// An empty span has nothing, any other its ends: what Empty and Has tell fits together.
func TestEmptySpansHaveNothing(t *testing.T) {
	for _, s := range spans() {
		if Has(s, s.Lo) == Empty(s) || Has(s, s.Hi) == Empty(s) {
			t.Errorf("%v: empty %v, has its ends %v, %v", s, Empty(s), Has(s, s.Lo), Has(s, s.Hi))
		}
		for _, n := range ends() {
			if Empty(s) && Has(s, n) {
				t.Errorf("%v is empty and has %d", s, n)
			}
		}
	}
}

func TestMeet(t *testing.T) {
	for _, c := range []struct{ a, b, want api.Span }{
		{of(1, 4), of(3, 9), of(3, 4)}, {of(-7, 4), of(-9, -2), of(-7, -2)},
		{of(1, 9), of(3, 4), of(3, 4)}, {of(1, 9), of(1, 4), of(1, 4)}, {of(1, 9), of(4, 9), of(4, 9)}, {of(1, 9), of(1, 9), of(1, 9)},
		{of(1, 4), of(4, 9), of(4, 4)}, {of(1, 4), of(4, 4), of(4, 4)}, {of(4, 4), of(4, 4), of(4, 4)},
		{of(1, 4), of(5, 9), of(1, 0)}, {of(1, 4), of(7, 9), of(1, 0)}, {of(4, 4), of(5, 5), of(1, 0)}, {of(-9, -5), of(5, 9), of(1, 0)},
		{of(1, 0), of(1, 0), of(1, 0)}, {of(1, 0), of(0, 1), of(1, 0)}, {of(9, 2), of(0, 99), of(1, 0)}, {of(9, 2), of(9, 2), of(1, 0)},
		{of(9, 2), of(8, 3), of(1, 0)}, {of(9, 2), of(3, 8), of(1, 0)}, {of(greatest, least), of(least, greatest), of(1, 0)},
		{of(least, greatest), of(-1, 1), of(-1, 1)}, {of(least, greatest), of(least, greatest), of(least, greatest)},
		{of(least, 0), of(0, greatest), of(0, 0)}, {of(least, -1), of(0, greatest), of(1, 0)}, {of(least, 1), of(0, greatest), of(0, 1)},
		{of(least, least), of(greatest, greatest), of(1, 0)}, {of(least, greatest), of(least, least), of(least, least)},
		{of(least, greatest), of(greatest, greatest), of(greatest, greatest)},
	} {
		if got := Meet(c.a, c.b); got != c.want {
			t.Errorf("Meet(%v, %v) = %v", c.a, c.b, got)
		}
		if got := Meet(c.b, c.a); got != c.want {
			t.Errorf("Meet(%v, %v) = %v", c.b, c.a, got)
		}
	}
}

// checkShape: a span that a call makes is one value, if it has nothing.
func checkShape(t *testing.T, s api.Span) {
	t.Helper()
	if s.Lo > s.Hi && s != of(1, 0) {
		t.Errorf("an empty span came out as %v", s)
	}
}

func TestMeetHasWhatBothHave(t *testing.T) {
	for _, a := range small() {
		for _, b := range small() {
			both := Meet(a, b)
			checkShape(t, both)
			for n := below; n <= above; n++ {
				if Has(both, n) != (Has(a, n) && Has(b, n)) {
					t.Errorf("Meet(%v, %v) = %v and %d", a, b, both, n)
				}
			}
		}
	}
}

func TestMeetOfWideSpans(t *testing.T) {
	numbers := ends()
	for _, a := range spans() {
		for _, b := range spans() {
			both := Meet(a, b)
			if both.Lo > both.Hi && both != of(1, 0) {
				t.Fatalf("Meet(%v, %v) = %v", a, b, both)
			}
			for _, n := range numbers {
				if Has(both, n) != (Has(a, n) && Has(b, n)) {
					t.Fatalf("Meet(%v, %v) = %v and %d", a, b, both, n)
				}
			}
		}
	}
}

func TestCut(t *testing.T) {
	for _, c := range []struct {
		s            api.Span
		at           int
		lower, upper api.Span
	}{
		{of(1, 9), 4, of(1, 4), of(5, 9)}, {of(-9, -1), -4, of(-9, -4), of(-3, -1)}, {of(-2, 3), 0, of(-2, 0), of(1, 3)},
		{of(1, 9), -7, of(1, 0), of(1, 9)}, {of(1, 9), 0, of(1, 0), of(1, 9)}, {of(1, 9), 1, of(1, 1), of(2, 9)}, {of(1, 9), 2, of(1, 2), of(3, 9)},
		{of(1, 9), 8, of(1, 8), of(9, 9)}, {of(1, 9), 9, of(1, 9), of(1, 0)}, {of(1, 9), 10, of(1, 9), of(1, 0)}, {of(1, 9), 99, of(1, 9), of(1, 0)},
		{of(1, 9), least, of(1, 0), of(1, 9)}, {of(1, 9), greatest, of(1, 9), of(1, 0)},
		{of(4, 4), 3, of(1, 0), of(4, 4)}, {of(4, 4), 4, of(4, 4), of(1, 0)}, {of(4, 4), 5, of(4, 4), of(1, 0)},
		{of(1, 0), 0, of(1, 0), of(1, 0)}, {of(1, 0), 1, of(1, 0), of(1, 0)}, {of(1, 0), 5, of(1, 0), of(1, 0)},
		{of(9, 1), -99, of(1, 0), of(1, 0)}, {of(9, 1), 1, of(1, 0), of(1, 0)}, {of(9, 1), 4, of(1, 0), of(1, 0)},
		{of(9, 1), 9, of(1, 0), of(1, 0)}, {of(9, 1), 99, of(1, 0), of(1, 0)},
		{of(9, 1), least, of(1, 0), of(1, 0)}, {of(9, 1), greatest, of(1, 0), of(1, 0)},
		{of(greatest, least), least, of(1, 0), of(1, 0)}, {of(greatest, least), 0, of(1, 0), of(1, 0)}, {of(greatest, least), greatest, of(1, 0), of(1, 0)},
		{of(least, greatest), least, of(least, least), of(least+1, greatest)}, {of(least, greatest), -1, of(least, -1), of(0, greatest)},
		{of(least, greatest), greatest - 1, of(least, greatest-1), of(greatest, greatest)}, {of(least, greatest), greatest, of(least, greatest), of(1, 0)},
		{of(least, least), least, of(least, least), of(1, 0)}, {of(least, least), greatest, of(least, least), of(1, 0)},
		{of(greatest, greatest), greatest, of(greatest, greatest), of(1, 0)}, {of(greatest, greatest), greatest - 1, of(1, 0), of(greatest, greatest)},
		{of(greatest, greatest), least, of(1, 0), of(greatest, greatest)}, {of(least+1, 0), least, of(1, 0), of(least+1, 0)},
	} {
		if lower, upper := Cut(c.s, c.at); lower != c.lower || upper != c.upper {
			t.Errorf("Cut(%v, %d) = %v, %v", c.s, c.at, lower, upper)
		}
	}
}

func TestCutPartsByOrder(t *testing.T) {
	for _, s := range small() {
		for at := below - 2; at <= above+2; at++ {
			lower, upper := Cut(s, at)
			checkShape(t, lower)
			checkShape(t, upper)
			for n := below; n <= above; n++ {
				if Has(lower, n) != (Has(s, n) && n <= at) || Has(upper, n) != (Has(s, n) && n > at) {
					t.Errorf("Cut(%v, %d) = %v, %v and %d", s, at, lower, upper, n)
				}
			}
		}
	}
}

// P4.4: what the whole has is in one part, and in one alone; what it hasn't is in none.
func TestBothPartsHaveTheWhole(t *testing.T) {
	for _, s := range spans() {
		for _, at := range ends() {
			lower, upper := Cut(s, at)
			checkShape(t, lower)
			checkShape(t, upper)
			for _, n := range append(ends(), s.Lo, s.Hi, at) {
				inLower, inUpper := Has(lower, n), Has(upper, n)
				if inLower && inUpper || (inLower || inUpper) != Has(s, n) {
					t.Errorf("Cut(%v, %d) = %v, %v: of %d it has %v, %v", s, at, lower, upper, n, inLower, inUpper)
				}
			}
			if whole, parts := wideSize(s), new(big.Int).Add(wideSize(lower), wideSize(upper)); whole.Cmp(parts) != 0 {
				t.Errorf("Cut(%v, %d) = %v, %v: %d numbers of %d", s, at, lower, upper, parts, whole)
			}
		}
	}
}

func TestWithin(t *testing.T) {
	for _, c := range []struct {
		a, b api.Span
		want bool
	}{
		{of(2, 3), of(1, 9), true}, {of(1, 9), of(1, 9), true}, {of(1, 3), of(1, 9), true}, {of(7, 9), of(1, 9), true},
		{of(0, 9), of(1, 9), false}, {of(1, 10), of(1, 9), false}, {of(0, 10), of(1, 9), false}, {of(0, 3), of(1, 9), false}, {of(7, 10), of(1, 9), false},
		{of(1, 9), of(2, 3), false}, {of(-3, 0), of(1, 9), false}, {of(10, 12), of(1, 9), false}, {of(-9, -5), of(5, 9), false},
		{of(4, 4), of(4, 4), true}, {of(4, 4), of(1, 9), true}, {of(1, 1), of(1, 9), true}, {of(9, 9), of(1, 9), true},
		{of(0, 0), of(1, 9), false}, {of(10, 10), of(1, 9), false}, {of(4, 5), of(4, 4), false},
		{of(1, 0), of(1, 0), true}, {of(1, 0), of(5, 9), true}, {of(9, 1), of(1, 0), true}, {of(9, 1), of(3, 4), true}, {of(9, 1), of(20, 10), true},
		{of(greatest, least), of(4, 4), true}, {of(greatest, least), of(1, 0), true}, {of(9, 1), of(least, greatest), true},
		{of(3, 3), of(1, 0), false}, {of(3, 3), of(4, 2), false}, {of(3, 3), of(greatest, least), false}, {of(0, 1), of(1, 0), false},
		{of(least, greatest), of(least, greatest), true}, {of(0, 0), of(least, greatest), true},
		{of(least, greatest), of(least+1, greatest), false}, {of(least, greatest), of(least, greatest-1), false}, {of(least, greatest), of(greatest, least), false},
		{of(least, least), of(least, greatest), true}, {of(greatest, greatest), of(least, greatest), true},
		{of(least, least), of(greatest, greatest), false}, {of(greatest, greatest), of(least, least), false},
	} {
		if got := Within(c.a, c.b); got != c.want {
			t.Errorf("Within(%v, %v) = %v", c.a, c.b, got)
		}
	}
}

func TestWithinByItsNumbers(t *testing.T) {
	for _, a := range small() {
		for _, b := range small() {
			want := true
			for n := below; n <= above; n++ {
				want = want && (!Has(a, n) || Has(b, n))
			}
			if got := Within(a, b); got != want {
				t.Errorf("Within(%v, %v) = %v", a, b, got)
			}
		}
	}
}

// A span without holes has all that another one has, if it has that one's ends.
func TestWithinOfWideSpans(t *testing.T) {
	for _, a := range spans() {
		for _, b := range spans() {
			want := a.Lo > a.Hi || Has(b, a.Lo) && Has(b, a.Hi)
			if got := Within(a, b); got != want {
				t.Fatalf("Within(%v, %v) = %v", a, b, got)
			}
		}
	}
}

// wideSize is how many numbers s has, in numbers without bounds.
func wideSize(s api.Span) *big.Int {
	size := new(big.Int).Sub(wide(s.Hi), wide(s.Lo))
	size.Add(size, wide(1))
	if size.Sign() < 0 {
		return new(big.Int)
	}
	return size
}

func TestSize(t *testing.T) {
	for _, c := range []struct {
		s    api.Span
		want int
		ok   bool
	}{
		{of(1, 9), 9, true}, {of(-9, -1), 9, true}, {of(-3, 5), 9, true}, {of(4, 5), 2, true},
		{of(4, 4), 1, true}, {of(0, 0), 1, true}, {of(least, least), 1, true}, {of(greatest, greatest), 1, true},
		{of(1, 0), 0, true}, {of(5, 4), 0, true}, {of(9, 1), 0, true}, {of(greatest, least), 0, true}, {of(0, least), 0, true}, {of(greatest, -1), 0, true},
		{of(1, greatest), greatest, true}, {of(0, greatest), 0, false}, {of(2, greatest), greatest - 1, true}, {of(0, greatest-1), greatest, true},
		{of(-1, greatest), 0, false}, {of(-1, greatest-1), 0, false}, {of(-1, greatest-2), greatest, true},
		{of(least, -2), greatest, true}, {of(least, -1), 0, false}, {of(least, 0), 0, false}, {of(least, -3), greatest - 1, true}, {of(least+1, -1), greatest, true},
		{of(least, greatest), 0, false}, {of(least+1, greatest), 0, false}, {of(least, greatest-1), 0, false},
		{of(-1<<62, 1<<62-1), 0, false}, {of(-1<<62, 1<<62-2), greatest, true}, {of(-1<<62, 1<<62), 0, false},
	} {
		if got, ok := Size(c.s); got != c.want || ok != c.ok {
			t.Errorf("Size(%v) = %d, %v", c.s, got, ok)
		}
	}
}

func TestSizeIsThatOfNumbersWithoutBounds(t *testing.T) {
	for _, s := range spans() {
		size := wideSize(s)
		want, wantOK := 0, size.IsInt64()
		if wantOK {
			want = int(size.Int64())
		}
		if got, ok := Size(s); got != want || ok != wantOK {
			t.Errorf("Size(%v) = %d, %v, not %d, %v", s, got, ok, want, wantOK)
		}
	}
}

func TestSizeCountsWhatASpanHas(t *testing.T) {
	for _, s := range small() {
		count := 0
		for n := below; n <= above; n++ {
			if Has(s, n) {
				count++
			}
		}
		if got, ok := Size(s); got != count || !ok {
			t.Errorf("Size(%v) = %d, %v, not %d", s, got, ok, count)
		}
	}
}

func TestRunsOfTheChapter(t *testing.T) {
	if lower, upper := Cut(of(1, 9), 4); lower != of(1, 4) || upper != of(5, 9) {
		t.Errorf("Cut((1, 9), 4) = %v, %v", lower, upper)
	}
	if lower, upper := Cut(of(1, 9), 9); lower != of(1, 9) || upper != of(1, 0) {
		t.Errorf("Cut((1, 9), 9) = %v, %v", lower, upper)
	}
	if got := Meet(of(1, 4), of(3, 9)); got != of(3, 4) {
		t.Errorf("Meet((1, 4), (3, 9)) = %v", got)
	}
	if got, ok := Size(of(1, 9)); got != 9 || !ok {
		t.Errorf("Size((1, 9)) = %d, %v", got, ok)
	}
}
