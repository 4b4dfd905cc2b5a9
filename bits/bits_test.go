package bits

import (
	"math"
	"math/big"
	"testing"
)

const (
	least    = math.MinInt64
	greatest = math.MaxInt64
	allOnes  = ^uint64(0)
)

// numbers are ordinary ones, and all that stand at a power of two or at a half between two, on both sides of 0.
func numbers() []int {
	list := []int{least, least + 1, greatest - 1, greatest, 200, -200, 123456789, -987654321, 0x0123456789abcdef, -0x0123456789abcdef}
	for n := -40; n <= 40; n++ {
		list = append(list, n)
	}
	for shift := 5; shift <= 62; shift++ {
		for _, times := range []int{1, 3, 5, -1, -3, -5} {
			n := times << shift
			list = append(list, n-1, n, n+1)
		}
	}
	return list
}

func words() []uint64 {
	list := []uint64{0, 1, 5, allOnes, 1 << 63, 1<<63 - 1, 0xaaaaaaaaaaaaaaaa, 0x5555555555555555, 0x0123456789abcdef, 0xfedcba9876543210}
	for shift := 1; shift < 63; shift += 7 {
		list = append(list, 1<<shift, allOnes<<shift, allOnes>>shift)
	}
	return list
}

func wrongWidths() []int {
	return []int{least, least + 1, -64, -63, -2, -1, 0, 65, 66, 127, 128, 1 << 32, 1<<32 + 8, greatest - 1, greatest}
}

func wrongPlaces() []int {
	return []int{least, least + 1, -64, -2, -1, 64, 65, 128, 1 << 32, greatest - 1, greatest}
}

func power(k int) *big.Int {
	return new(big.Int).Lsh(big.NewInt(1), uint(k))
}

// inRange asks the chapter's words in numbers without bounds.
func inRange(n, w int) bool {
	half := power(w - 1)
	b := big.NewInt(int64(n))
	return b.Cmp(new(big.Int).Neg(half)) >= 0 && b.Cmp(half) < 0
}

func TestFitsIsTheRangeOfEachWidth(t *testing.T) {
	for w := 1; w <= 64; w++ {
		for _, n := range numbers() {
			if got := Fits(n, w); got != inRange(n, w) {
				t.Errorf("Fits(%d, %d) = %v", n, w, got)
			}
		}
	}
}

func TestFitsAtItsEdges(t *testing.T) {
	for _, c := range []struct {
		n, w int
		want bool
	}{
		{0, 1, true}, {-1, 1, true}, {1, 1, false}, {-2, 1, false},
		{127, 8, true}, {128, 8, false}, {-128, 8, true}, {-129, 8, false},
		{1<<62 - 1, 63, true}, {1 << 62, 63, false}, {-1 << 62, 63, true}, {-1<<62 - 1, 63, false},
		{least, 64, true}, {greatest, 64, true}, {least, 63, false}, {greatest, 63, false},
	} {
		if got := Fits(c.n, c.w); got != c.want {
			t.Errorf("Fits(%d, %d) = %v", c.n, c.w, got)
		}
	}
}

func TestFitsOfNoWidthIsFalse(t *testing.T) {
	for _, w := range wrongWidths() {
		for _, n := range numbers() {
			if Fits(n, w) {
				t.Errorf("Fits(%d, %d) = true", n, w)
			}
		}
	}
}

func TestWrapIsInRangeAndDiffersByAMultiple(t *testing.T) {
	for w := 1; w <= 63; w++ {
		for _, n := range numbers() {
			got := Wrap(n, w)
			apart := new(big.Int).Sub(big.NewInt(int64(n)), big.NewInt(int64(got)))
			if !inRange(got, w) || apart.Mod(apart, power(w)).Sign() != 0 {
				t.Errorf("Wrap(%d, %d) = %d", n, w, got)
			}
		}
	}
}

func TestWrapAtItsEdges(t *testing.T) {
	for _, c := range [][3]int{
		{200, 8, -56}, {128, 8, -128}, {-129, 8, 127}, {256, 8, 0}, {127, 8, 127}, {-128, 8, -128},
		{0, 1, 0}, {1, 1, -1}, {-1, 1, -1}, {2, 1, 0}, {3, 1, -1},
		{1 << 62, 63, -1 << 62}, {-1<<62 - 1, 63, 1<<62 - 1}, {greatest, 63, -1}, {least, 63, 0},
		{least, 1, 0}, {greatest, 1, -1},
	} {
		if got := Wrap(c[0], c[1]); got != c[2] {
			t.Errorf("Wrap(%d, %d) = %d, not %d", c[0], c[1], got, c[2])
		}
	}
}

func TestWrapOfOtherWidthsIsTheNumber(t *testing.T) {
	for _, w := range append(wrongWidths(), 64) {
		for _, n := range numbers() {
			if got := Wrap(n, w); got != n {
				t.Errorf("Wrap(%d, %d) = %d", n, w, got)
			}
		}
	}
}

// eachField goes through all fields of a word.
func eachField(visit func(at, w int)) {
	for at := 0; at <= 63; at++ {
		for w := 1; w <= 64-at; w++ {
			visit(at, w)
		}
	}
}

// eachWrong goes through places and widths of which no field is made.
func eachWrong(visit func(at, w int)) {
	for at := 0; at <= 63; at++ {
		visit(at, 65-at)
		if at > 0 {
			visit(at, 64)
		}
		for _, w := range wrongWidths() {
			visit(at, w)
		}
	}
	for _, at := range wrongPlaces() {
		for w := -1; w <= 65; w++ {
			visit(at, w)
		}
		for _, w := range wrongWidths() {
			visit(at, w)
		}
	}
}

// bitOf is bit k, worked out by halving, so that the tests do not lean on the shifts that they test.
func bitOf(word uint64, k int) uint64 {
	for ; k > 0; k-- {
		word /= 2
	}
	return word % 2
}

func fieldByBits(word uint64, at, w int) uint64 {
	var sum uint64
	for k := at + w - 1; k >= at; k-- {
		sum = 2*sum + bitOf(word, k)
	}
	return sum
}

func TestGetReadsTheFieldsBits(t *testing.T) {
	for _, word := range words() {
		eachField(func(at, w int) {
			if got, want := Get(word, at, w), fieldByBits(word, at, w); got != want {
				t.Errorf("Get(%#x, %d, %d) = %#x, not %#x", word, at, w, got, want)
			}
		})
	}
}

func TestSignedReadsTheFieldsNumber(t *testing.T) {
	for _, word := range words() {
		eachField(func(at, w int) {
			want := new(big.Int).SetUint64(fieldByBits(word, at, w))
			if bitOf(word, at+w-1) == 1 {
				want.Sub(want, power(w))
			}
			if got := Signed(word, at, w); want.Cmp(big.NewInt(int64(got))) != 0 {
				t.Errorf("Signed(%#x, %d, %d) = %d, not %v", word, at, w, got, want)
			}
		})
	}
}

func TestFieldsAtTheirEdges(t *testing.T) {
	for _, c := range []struct {
		word   uint64
		at, w  int
		get    uint64
		signed int
	}{
		{0xff0, 4, 8, 0xff, -1}, {0x7f0, 4, 8, 0x7f, 127}, {0x800, 4, 8, 0x80, -128},
		{1 << 63, 63, 1, 1, -1}, {1<<63 - 1, 63, 1, 0, 0}, {1, 0, 1, 1, -1},
		{allOnes, 1, 63, greatest, -1}, {1 << 63, 1, 63, 1 << 62, -1 << 62}, {allOnes, 0, 63, greatest, -1},
		{1 << 63, 0, 64, 1 << 63, least}, {1<<63 - 1, 0, 64, greatest, greatest}, {allOnes, 0, 64, allOnes, -1},
		{1 << 63, 32, 32, 1 << 31, math.MinInt32}, {1 << 31, 0, 32, 1 << 31, math.MinInt32},
	} {
		if got := Get(c.word, c.at, c.w); got != c.get {
			t.Errorf("Get(%#x, %d, %d) = %#x", c.word, c.at, c.w, got)
		}
		if got := Signed(c.word, c.at, c.w); got != c.signed {
			t.Errorf("Signed(%#x, %d, %d) = %d", c.word, c.at, c.w, got)
		}
	}
}

func TestNoFieldIsReadAsZero(t *testing.T) {
	eachWrong(func(at, w int) {
		for _, word := range []uint64{allOnes, 1 << 63, 5} {
			if got := Get(word, at, w); got != 0 {
				t.Errorf("Get(%#x, %d, %d) = %#x", word, at, w, got)
			}
			if got := Signed(word, at, w); got != 0 {
				t.Errorf("Signed(%#x, %d, %d) = %d", word, at, w, got)
			}
		}
	})
}

func TestNoFieldIsNotWritten(t *testing.T) {
	eachWrong(func(at, w int) {
		for _, word := range []uint64{0, 5, allOnes} {
			for _, x := range []uint64{0, 9, allOnes} {
				if got := Put(word, at, w, x); got != word {
					t.Errorf("Put(%#x, %d, %d, %#x) = %#x", word, at, w, x, got)
				}
			}
		}
	})
}

func TestPutAtItsEdges(t *testing.T) {
	for _, c := range []struct {
		word  uint64
		at, w int
		x     uint64
		want  uint64
	}{
		{0, 4, 8, 0x1ff, 0xff0}, {allOnes, 4, 8, 0, 0xfffffffffffff00f}, {allOnes, 4, 8, 0xa5, 0xfffffffffffffa5f},
		{5, 0, 64, 9, 9}, {5, 0, 64, allOnes, allOnes}, {5, 0, 1, 2, 4}, {4, 0, 1, 3, 5},
		{5, 63, 1, 3, 1<<63 | 5}, {allOnes, 63, 1, 2, 1<<63 - 1},
		{5, 1, 63, 0, 1}, {0, 1, 63, allOnes, allOnes - 1}, {1 << 63, 0, 63, 7, 1<<63 | 7},
		{0, 32, 32, allOnes, 0xffffffff00000000}, {allOnes, 32, 32, 1 << 32, 0xffffffff},
	} {
		if got := Put(c.word, c.at, c.w, c.x); got != c.want {
			t.Errorf("Put(%#x, %d, %d, %#x) = %#x, not %#x", c.word, c.at, c.w, c.x, got, c.want)
		}
	}
}

func TestWhatIsPutIsGot(t *testing.T) {
	for _, word := range []uint64{0, allOnes, 0x0123456789abcdef} {
		for _, x := range words() {
			eachField(func(at, w int) {
				if got, want := Get(Put(word, at, w, x), at, w), fieldByBits(x, 0, w); got != want {
					t.Errorf("Put(%#x, %d, %d, %#x), then got %#x, not %#x", word, at, w, x, got, want)
				}
			})
		}
	}
}

func TestNumbersWithASignComeBack(t *testing.T) {
	for _, n := range numbers() {
		eachField(func(at, w int) {
			if got, want := Signed(Put(allOnes, at, w, uint64(n)), at, w), Wrap(n, w); got != want {
				t.Errorf("%d put at %d, %d, comes back as %d, not %d", n, at, w, got, want)
			}
		})
	}
}

func TestOtherBitsStay(t *testing.T) {
	for _, word := range []uint64{0, allOnes, 0x0123456789abcdef} {
		for _, x := range []uint64{0, allOnes, 0xaaaaaaaaaaaaaaaa} {
			eachField(func(at, w int) {
				after := Put(word, at, w, x)
				for k := 0; k <= 63; k++ {
					if (k < at || k >= at+w) && bitOf(after, k) != bitOf(word, k) {
						t.Errorf("Put(%#x, %d, %d, %#x) changed bit %d", word, at, w, x, k)
					}
				}
			})
		}
	}
}

// nearest rounds in numbers without bounds: twice the distance to a whole number is held against 2^by.
func nearest(n, by int) *big.Int {
	unit := power(by)
	below, rest := new(big.Int).DivMod(big.NewInt(int64(n)), unit, new(big.Int))
	above := new(big.Int).Add(below, big.NewInt(1))
	switch side := rest.Lsh(rest, 1).Cmp(unit); {
	case side < 0:
		return below
	case side > 0:
		return above
	case below.Bit(0) == 0:
		return below
	}
	return above
}

func TestRoundIsTheNearest(t *testing.T) {
	for by := 1; by <= 62; by++ {
		for _, n := range numbers() {
			if got, want := Round(n, by), nearest(n, by); want.Cmp(big.NewInt(int64(got))) != 0 {
				t.Errorf("Round(%d, %d) = %d, not %v", n, by, got, want)
			}
		}
	}
}

func TestRoundAtItsEdges(t *testing.T) {
	for _, c := range [][3]int{
		{5, 1, 2}, {7, 1, 4}, {-5, 1, -2}, {-7, 1, -4}, {1, 1, 0}, {-1, 1, 0}, {3, 1, 2}, {-3, 1, -2},
		{6, 2, 2}, {10, 2, 2}, {11, 2, 3}, {9, 2, 2}, {-6, 2, -2}, {-10, 2, -2}, {-11, 2, -3}, {-9, 2, -2},
		{greatest, 1, 1 << 62}, {greatest - 1, 1, 1<<62 - 1}, {least, 1, -1 << 62}, {least + 1, 1, -1 << 62},
		{greatest, 62, 2}, {least, 62, -2}, {1 << 61, 62, 0}, {1<<61 + 1, 62, 1}, {1<<61 - 1, 62, 0},
		{3 << 61, 62, 2}, {3<<61 - 1, 62, 1}, {-1 << 61, 62, 0}, {-1<<61 - 1, 62, -1}, {-3 << 61, 62, -2},
	} {
		if got := Round(c[0], c[1]); got != c[2] {
			t.Errorf("Round(%d, %d) = %d, not %d", c[0], c[1], got, c[2])
		}
	}
}

func TestRoundByNoPowerIsTheNumber(t *testing.T) {
	for _, by := range []int{least, least + 1, -64, -2, -1, 0, 63, 64, 65, 99, 1 << 32, greatest - 1, greatest} {
		for _, n := range numbers() {
			if got := Round(n, by); got != n {
				t.Errorf("Round(%d, %d) = %d", n, by, got)
			}
		}
	}
}

func TestTheChaptersRuns(t *testing.T) {
	if got := Wrap(200, 8); got != -56 {
		t.Errorf("Wrap(200, 8) = %d", got)
	}
	word := Put(0, 4, 8, 0x1FF)
	if word != 0xFF0 {
		t.Errorf("Put(0, 4, 8, 0x1FF) = %#x", word)
	}
	if got := Signed(word, 4, 8); got != -1 {
		t.Errorf("Signed(%#x, 4, 8) = %d", word, got)
	}
	for _, c := range [][2]int{{5, 2}, {7, 4}, {-5, -2}} {
		if got := Round(c[0], 1); got != c[1] {
			t.Errorf("Round(%d, 1) = %d, not %d", c[0], got, c[1])
		}
	}
}
