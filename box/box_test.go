package box

import (
	"math"
	"slices"
	"testing"

	"copse/api"
	"copse/span"
)

const (
	least    = math.MinInt64
	greatest = math.MaxInt64
	places   = api.MaxDim + 1
)

// of is a box by its Los and His, place by place; what isn't told is (0, 0).
func of(ends ...int) api.Box {
	var b api.Box
	for i := 0; i+1 < len(ends); i += 2 {
		b[i/2] = api.Span{Lo: ends[i], Hi: ends[i+1]}
	}
	return b
}

// with is b with another span at one place.
func with(b api.Box, place, lo, hi int) api.Box {
	b[place] = api.Span{Lo: lo, Hi: hi}
	return b
}

// moved is a point and a twin as the five numbers of a pair, one of them set anew.
func moved(p api.Point, twin, place, n int) (api.Point, int) {
	if place == api.Twin {
		return p, n
	}
	p[place] = n
	return p, twin
}

// ordinary has another span in each place, so that no place can stand in for another.
func ordinary() api.Box { return of(1, 9, -2, 2, 20, 25, -40, -30, 50, 57) }

// inside is one of ordinary's pairs.
func inside() (api.Point, int) { return api.Point{4, 0, 22, -35}, 53 }

// emptySpans are spans without a number, near and far.
func emptySpans() []api.Span {
	return []api.Span{{Lo: 1, Hi: 0}, {Lo: 0, Hi: -1}, {Lo: 9, Hi: 3}, {Lo: -5, Hi: -9}, {Lo: greatest, Hi: least}, {Lo: least + 1, Hi: least}, {Lo: greatest, Hi: greatest - 1}}
}

// small are all boxes whose spans are some of a few spans, empty ones among them.
func small() []api.Box {
	spans := []api.Span{{Lo: 0, Hi: 1}, {Lo: 1, Hi: 2}, {Lo: 2, Hi: 1}}
	list := []api.Box{{}}
	for place := range places {
		var next []api.Box
		for _, b := range list {
			for _, s := range spans {
				next = append(next, with(b, place, s.Lo, s.Hi))
			}
		}
		list = next
	}
	return list
}

// eachPair goes through all pairs whose five numbers are from -1 to 3: those of small boxes, and those beside them.
func eachPair(yield func(api.Point, int) bool) {
	for code := range 5 * 5 * 5 * 5 * 5 {
		var p api.Point
		for place := range p {
			p[place] = code%5 - 1
			code /= 5
		}
		if !yield(p, code-1) {
			return
		}
	}
}

func TestWhole(t *testing.T) {
	for _, c := range []struct {
		dim  int
		s    api.Span
		want api.Box
	}{
		{0, api.Span{Lo: 1, Hi: 9}, of()},
		{1, api.Span{Lo: 1, Hi: 9}, of(1, 9)},
		{2, api.Span{Lo: 1, Hi: 9}, of(1, 9, 1, 9)},
		{3, api.Span{Lo: 1, Hi: 9}, of(1, 9, 1, 9, 1, 9)},
		{4, api.Span{Lo: 1, Hi: 9}, of(1, 9, 1, 9, 1, 9, 1, 9)},
		{5, api.Span{Lo: 1, Hi: 9}, of(1, 9, 1, 9, 1, 9, 1, 9)},
		{6, api.Span{Lo: 1, Hi: 9}, of(1, 9, 1, 9, 1, 9, 1, 9)},
		{1 << 32, api.Span{Lo: 1, Hi: 9}, of(1, 9, 1, 9, 1, 9, 1, 9)},
		{greatest, api.Span{Lo: 1, Hi: 9}, of(1, 9, 1, 9, 1, 9, 1, 9)},
		{-1, api.Span{Lo: 1, Hi: 9}, of()},
		{-4, api.Span{Lo: 1, Hi: 9}, of()},
		{-1 << 32, api.Span{Lo: 1, Hi: 9}, of()},
		{least, api.Span{Lo: 1, Hi: 9}, of()},
		{2, api.Span{Lo: 1, Hi: 0}, of(1, 0, 1, 0)},
		{2, api.Span{Lo: 9, Hi: 3}, of(9, 3, 9, 3)},
		{4, api.Span{Lo: greatest, Hi: least}, of(greatest, least, greatest, least, greatest, least, greatest, least)},
		{0, api.Span{Lo: 9, Hi: 3}, of()},
		{1, api.Span{Lo: least, Hi: greatest}, of(least, greatest)},
		{3, api.Span{Lo: -7, Hi: -7}, of(-7, -7, -7, -7, -7, -7)},
		{3, api.Span{}, of()},
	} {
		if got := Whole(c.dim, c.s); got != c.want {
			t.Errorf("Whole(%d, %v) = %v", c.dim, c.s, got)
		}
	}
}

func TestWholeOfAnEmptySpanIsEmptyButOfNoFeature(t *testing.T) {
	for _, s := range emptySpans() {
		for dim := -2; dim <= places+1; dim++ {
			if got := Empty(Whole(dim, s)); got != (dim > 0) {
				t.Errorf("Empty(Whole(%d, %v)) = %v", dim, s, got)
			}
		}
	}
}

func TestEmptyByOneSpan(t *testing.T) {
	for _, b := range []api.Box{ordinary(), of(), of(1, 1, 2, 2, 3, 3, 4, 4, 5, 5), of(least, greatest, least, least, greatest, greatest, -1, 0, 0, 1)} {
		if Empty(b) {
			t.Errorf("%v is told to be empty", b)
		}
		for place := range places {
			for _, s := range emptySpans() {
				if one := with(b, place, s.Lo, s.Hi); !Empty(one) {
					t.Errorf("%v is told not to be empty", one)
				}
			}
		}
	}
}

func TestEmptyBySeveralSpans(t *testing.T) {
	for which := range 1 << places {
		b := ordinary()
		for place := range places {
			if which>>place&1 == 1 {
				b = with(b, place, 3, 2)
			}
		}
		if got := Empty(b); got != (which > 0) {
			t.Errorf("Empty(%v) = %v", b, got)
		}
	}
}

func TestHasInEachPlace(t *testing.T) {
	b := ordinary()
	if p, twin := inside(); !Has(b, p, twin) {
		t.Errorf("%v hasn't %v, %d", b, p, twin)
	}
	for place := range places {
		s := b[place]
		for _, c := range []struct {
			n    int
			want bool
		}{
			{s.Lo, true}, {s.Lo + 1, true}, {s.Hi - 1, true}, {s.Hi, true},
			{s.Lo - 1, false}, {s.Hi + 1, false}, {least, false}, {greatest, false},
		} {
			p, twin := inside()
			p, twin = moved(p, twin, place, c.n)
			if got := Has(b, p, twin); got != c.want {
				t.Errorf("Has(%v, %v, %d) = %v", b, p, twin, got)
			}
		}
	}
}

func TestHasAtTheEndsOfAll(t *testing.T) {
	for _, c := range []struct {
		b    api.Box
		p    api.Point
		twin int
		want bool
	}{
		{ordinary(), api.Point{1, -2, 20, -40}, 50, true},
		{ordinary(), api.Point{9, 2, 25, -30}, 57, true},
		{ordinary(), api.Point{0, -3, 19, -41}, 49, false},
		{ordinary(), api.Point{10, 3, 26, -29}, 58, false},
		{ordinary(), api.Point{}, 0, false},
		{of(), api.Point{}, 0, true},
		{of(), api.Point{}, 1, false},
		{of(), api.Point{0, 0, 0, 1}, 0, false},
		{of(least, greatest, least, greatest, least, greatest, least, greatest, least, greatest), api.Point{least, greatest, 0, least}, greatest, true},
		{of(least, least, greatest, greatest, 0, 0, 0, 0, least, least), api.Point{least, greatest}, least, true},
		{of(least, least, greatest, greatest, 0, 0, 0, 0, least, least), api.Point{least, greatest}, greatest, false},
	} {
		if got := Has(c.b, c.p, c.twin); got != c.want {
			t.Errorf("Has(%v, %v, %d) = %v", c.b, c.p, c.twin, got)
		}
	}
}

func TestEmptyBoxesHaveNothing(t *testing.T) {
	for _, b := range small() {
		some := false
		for p, twin := range eachPair {
			some = some || Has(b, p, twin)
		}
		if some == Empty(b) {
			t.Errorf("%v: empty %v, has some %v", b, Empty(b), some)
		}
	}
}

func TestMeet(t *testing.T) {
	a := ordinary()
	for _, c := range []struct{ a, b, want api.Box }{
		{a, a, a},
		{a, of(3, 12, -9, 1, 21, 22, -99, 99, 57, 60), of(3, 9, -2, 1, 21, 22, -40, -30, 57, 57)},
		{a, of(9, 12, 2, 8, 0, 20, -30, 7, 7, 50), of(9, 9, 2, 2, 20, 20, -30, -30, 50, 50)},
		{a, of(10, 12, 3, 8, 0, 19, -29, 7, 7, 49), of(1, 0, 1, 0, 1, 0, 1, 0, 1, 0)},
		{a, of(least, greatest, least, greatest, least, greatest, least, greatest, least, greatest), a},
		{a, of(greatest, least, greatest, least, greatest, least, greatest, least, greatest, least), of(1, 0, 1, 0, 1, 0, 1, 0, 1, 0)},
		{of(), of(), of()},
		{of(9, 3), of(9, 3), of(1, 0)},
		{of(9, 3), of(0, 99, 0, 0, 0, 0, 0, 0, 5, 1), of(1, 0, 0, 0, 0, 0, 0, 0, 1, 0)},
		{of(least, 0, 0, greatest), of(0, greatest, least, 0), of()},
		{of(least, -1, 0, greatest), of(0, greatest, least, 0), of(1, 0)},
	} {
		if got := Meet(c.a, c.b); got != c.want {
			t.Errorf("Meet(%v, %v) = %v", c.a, c.b, got)
		}
		if got := Meet(c.b, c.a); got != c.want {
			t.Errorf("Meet(%v, %v) = %v", c.b, c.a, got)
		}
	}
}

func TestMeetInOnePlace(t *testing.T) {
	a := ordinary()
	for place := range places {
		s := a[place]
		for _, c := range []struct{ other, want api.Span }{
			{api.Span{Lo: s.Lo - 3, Hi: s.Lo}, api.Span{Lo: s.Lo, Hi: s.Lo}},
			{api.Span{Lo: s.Hi, Hi: s.Hi + 3}, api.Span{Lo: s.Hi, Hi: s.Hi}},
			{api.Span{Lo: s.Lo - 3, Hi: s.Lo - 1}, api.Span{Lo: 1, Hi: 0}},
			{api.Span{Lo: s.Hi + 1, Hi: s.Hi + 3}, api.Span{Lo: 1, Hi: 0}},
			{api.Span{Lo: s.Lo + 1, Hi: s.Hi - 1}, api.Span{Lo: s.Lo + 1, Hi: s.Hi - 1}},
			{api.Span{Lo: s.Hi, Hi: s.Lo}, api.Span{Lo: 1, Hi: 0}},
		} {
			b, want := with(a, place, c.other.Lo, c.other.Hi), with(a, place, c.want.Lo, c.want.Hi)
			if got := Meet(a, b); got != want {
				t.Errorf("Meet(%v, %v) = %v", a, b, got)
			}
			if got := Empty(Meet(a, b)); got != (c.want.Lo > c.want.Hi) {
				t.Errorf("Empty(Meet(%v, %v)) = %v", a, b, got)
			}
		}
	}
}

func TestMeetIsSpanBySpan(t *testing.T) {
	for _, a := range small() {
		for _, b := range small() {
			got := Meet(a, b)
			for place := range places {
				if got[place] != span.Meet(a[place], b[place]) {
					t.Fatalf("Meet(%v, %v) = %v", a, b, got)
				}
			}
		}
	}
}

func TestMeetHasWhatBothHave(t *testing.T) {
	a := of(0, 2, 1, 3, -1, 1, 0, 0, 1, 2)
	for _, b := range append(small(), of(1, 3, 0, 1, 1, 2, -1, 3, 2, 3)) {
		both := Meet(a, b)
		for p, twin := range eachPair {
			if Has(both, p, twin) != (Has(a, p, twin) && Has(b, p, twin)) {
				t.Fatalf("Meet(%v, %v) = %v and %v, %d", a, b, both, p, twin)
			}
		}
	}
}

func TestCutInEachPlace(t *testing.T) {
	b := ordinary()
	none := api.Span{Lo: 1, Hi: 0}
	for place := range places {
		s := b[place]
		for _, c := range []struct {
			at           int
			lower, upper api.Span
		}{
			{least, none, s}, {s.Lo - 5, none, s}, {s.Lo - 1, none, s},
			{s.Lo, api.Span{Lo: s.Lo, Hi: s.Lo}, api.Span{Lo: s.Lo + 1, Hi: s.Hi}},
			{s.Lo + 2, api.Span{Lo: s.Lo, Hi: s.Lo + 2}, api.Span{Lo: s.Lo + 3, Hi: s.Hi}},
			{s.Hi - 1, api.Span{Lo: s.Lo, Hi: s.Hi - 1}, api.Span{Lo: s.Hi, Hi: s.Hi}},
			{s.Hi, s, none}, {s.Hi + 1, s, none}, {s.Hi + 5, s, none}, {greatest, s, none},
		} {
			lower, upper := Cut(b, place, c.at)
			if lower != with(b, place, c.lower.Lo, c.lower.Hi) || upper != with(b, place, c.upper.Lo, c.upper.Hi) {
				t.Errorf("Cut(%v, %d, %d) = %v, %v", b, place, c.at, lower, upper)
			}
		}
	}
}

func TestCutOfWideSpans(t *testing.T) {
	for place := range places {
		b := with(ordinary(), place, least, greatest)
		for _, c := range []struct{ at, lowerHi, upperLo int }{{least, least, least + 1}, {-1, -1, 0}, {0, 0, 1}, {greatest - 1, greatest - 1, greatest}} {
			lower, upper := Cut(b, place, c.at)
			if lower != with(b, place, least, c.lowerHi) || upper != with(b, place, c.upperLo, greatest) {
				t.Errorf("Cut(%v, %d, %d) = %v, %v", b, place, c.at, lower, upper)
			}
		}
		if lower, upper := Cut(b, place, greatest); lower != b || upper != with(b, place, 1, 0) {
			t.Errorf("Cut(%v, %d, the greatest) = %v, %v", b, place, lower, upper)
		}
	}
}

func TestCutOfEmptyBoxes(t *testing.T) {
	for place := range places {
		for _, s := range emptySpans() {
			b := with(ordinary(), place, s.Lo, s.Hi)
			want := with(b, place, 1, 0)
			for _, at := range []int{least, s.Lo, s.Hi, 0, 5, greatest} {
				if lower, upper := Cut(b, place, at); lower != want || upper != want {
					t.Errorf("Cut(%v, %d, %d) = %v, %v", b, place, at, lower, upper)
				}
			}
			// An empty span at another place stays as it is.
			other := (place + 1) % places
			at := b[other].Lo
			if lower, upper := Cut(b, other, at); lower != with(b, other, at, at) || upper != with(b, other, at+1, b[other].Hi) {
				t.Errorf("Cut(%v, %d, %d) = %v, %v", b, other, at, lower, upper)
			}
		}
	}
}

func TestCutAtNoPlace(t *testing.T) {
	for _, b := range []api.Box{ordinary(), of(), of(9, 3, 5, 1), with(of(), api.Twin, 7, 2)} {
		for _, place := range []int{-1, -2, -places, least, places, places + 1, 8, 1 << 32, greatest} {
			for _, at := range []int{least, -1, 0, 4, 22, 53, greatest} {
				if lower, upper := Cut(b, place, at); lower != b || upper != b {
					t.Errorf("Cut(%v, %d, %d) = %v, %v", b, place, at, lower, upper)
				}
			}
		}
	}
}

// P5.4: what is in a box is in just one part of its cut; what isn't, is in none.
func TestJustOnePartHasWhatTheBoxHas(t *testing.T) {
	boxes := []api.Box{of(0, 2, 1, 3, -1, 1, 0, 0, 1, 2), of(-1, 3, -1, 3, -1, 3, -1, 3, -1, 3), of(0, 2, 1, 3, 2, 1, 0, 0, 1, 2), of(0, 2, 1, 3, -1, 1, 0, 0, 3, 0)}
	for _, b := range boxes {
		for place := range places {
			for _, at := range []int{least, -2, -1, 0, 1, 2, 3, 4, greatest} {
				lower, upper := Cut(b, place, at)
				for p, twin := range eachPair {
					inLower, inUpper := Has(lower, p, twin), Has(upper, p, twin)
					if inLower && inUpper || (inLower || inUpper) != Has(b, p, twin) {
						t.Fatalf("Cut(%v, %d, %d) = %v, %v: of %v, %d they have %v, %v", b, place, at, lower, upper, p, twin, inLower, inUpper)
					}
				}
			}
		}
	}
}

func TestPartsOfACutLieByOrder(t *testing.T) {
	b := of(-1, 3, -1, 3, -1, 3, -1, 3, -1, 3)
	for place := range places {
		lower, upper := Cut(b, place, 1)
		for p, twin := range eachPair {
			n := append(p[:], twin)[place]
			if Has(lower, p, twin) != (n <= 1) || Has(upper, p, twin) != (n > 1) {
				t.Fatalf("Cut(%v, %d, 1) = %v, %v and %v, %d", b, place, lower, upper, p, twin)
			}
		}
	}
}

func TestPartsOfACutAtTheEdgesOfInt(t *testing.T) {
	edges := []int{least, least + 1, -1, 0, 1, greatest - 1, greatest}
	for place := range places {
		for _, lo := range edges {
			for _, hi := range edges {
				b := with(ordinary(), place, lo, hi)
				for _, at := range edges {
					lower, upper := Cut(b, place, at)
					for _, n := range edges {
						p, twin := inside()
						p, twin = moved(p, twin, place, n)
						inLower, inUpper, in := Has(lower, p, twin), Has(upper, p, twin), lo <= n && n <= hi
						if inLower != (in && n <= at) || inUpper != (in && n > at) {
							t.Fatalf("Cut(%v, %d, %d) = %v, %v and %v, %d", b, place, at, lower, upper, p, twin)
						}
					}
				}
			}
		}
	}
}

func TestWithinInEachPlace(t *testing.T) {
	b := ordinary()
	if !Within(b, b) {
		t.Errorf("%v isn't within itself", b)
	}
	for place := range places {
		s := b[place]
		for _, c := range []struct {
			lo, hi int
			want   bool
		}{
			{s.Lo, s.Lo, true}, {s.Hi, s.Hi, true}, {s.Lo + 1, s.Hi - 1, true}, {s.Lo, s.Hi - 1, true}, {s.Lo + 1, s.Hi, true},
			{s.Lo - 1, s.Hi, false}, {s.Lo, s.Hi + 1, false}, {s.Lo - 1, s.Hi + 1, false}, {s.Lo - 1, s.Lo - 1, false}, {s.Hi + 1, s.Hi + 1, false},
			{s.Hi + 3, s.Hi + 5, false}, {least, greatest, false}, {s.Hi, s.Lo, true}, {greatest, least, true}, {1, 0, true},
		} {
			a := with(b, place, c.lo, c.hi)
			if got := Within(a, b); got != c.want {
				t.Errorf("Within(%v, %v) = %v", a, b, got)
			}
		}
	}
}

func TestWithinOfEmptyBoxes(t *testing.T) {
	far := of(900, 901, 900, 901, 900, 901, 900, 901, 900, 901)
	for place := range places {
		for _, s := range emptySpans() {
			empty := with(far, place, s.Lo, s.Hi)
			for _, b := range []api.Box{ordinary(), of(), empty, of(1, 0, 1, 0, 1, 0, 1, 0, 1, 0), with(of(), place, 7, 2)} {
				if !Within(empty, b) {
					t.Errorf("%v is empty and not within %v", empty, b)
				}
			}
			for _, a := range []api.Box{ordinary(), of(), far} {
				if Within(a, empty) {
					t.Errorf("%v is within %v, which is empty", a, empty)
				}
			}
		}
	}
}

func TestWithinByWhatBoxesHave(t *testing.T) {
	wide := of(0, 2, 0, 2, 0, 2, 0, 2, 0, 2)
	for _, a := range small() {
		if !Within(a, wide) {
			t.Errorf("Within(%v, %v) = false", a, wide)
		}
		if Within(wide, a) {
			t.Errorf("Within(%v, %v) = true", wide, a)
		}
		for _, b := range small() {
			want := Empty(a) || a == b
			if got := Within(a, b); got != want {
				t.Fatalf("Within(%v, %v) = %v", a, b, got)
			}
		}
	}
}

func TestLow(t *testing.T) {
	for _, c := range []struct {
		b    api.Box
		want api.Point
	}{
		{ordinary(), api.Point{1, -2, 20, -40}}, {of(), api.Point{}}, {of(0, 0, 0, 0, 0, 0, 0, 0, 5, 9), api.Point{}},
		{of(9, 3, 1, 0, 7, 7, 5, -5, 2, 1), api.Point{9, 1, 7, 5}}, {of(3, 4, 5, 6, 7, 8, 9, 10, 1, 0), api.Point{3, 5, 7, 9}},
		{of(least, greatest, greatest, least, greatest, greatest, -1, greatest, least, 0), api.Point{least, greatest, greatest, -1}},
	} {
		if got := Low(c.b); got != c.want {
			t.Errorf("Low(%v) = %v", c.b, got)
		}
	}
}

func TestLowIsInTheBox(t *testing.T) {
	for _, b := range small() {
		if got := Has(b, Low(b), b[api.Twin].Lo); got == Empty(b) {
			t.Errorf("%v has its low one: %v", b, got)
		}
	}
}

func checkLargest(t *testing.T, s Set, want api.Box, most int) {
	t.Helper()
	if b, n := s.Largest(); b != want || n != most {
		t.Errorf("Largest of %v = %v, %d, not %v, %d", s, b, n, want, most)
	}
}

func TestAddCountsByValue(t *testing.T) {
	s := Set{}
	other := with(ordinary(), api.Twin, 50, 58)
	for i, c := range []struct {
		b    api.Box
		want int
	}{
		{ordinary(), 1}, {ordinary(), 2}, {other, 1}, {of(1, 9, -2, 2, 20, 25, -40, -30, 50, 57), 3}, {other, 2},
		{of(), 1}, {api.Box{}, 2}, {of(9, 3), 1}, {of(1, 0), 1}, {of(9, 3), 2}, {ordinary(), 4},
	} {
		if got := s.Add(c.b); got != c.want {
			t.Errorf("%d: Add(%v) = %d, not %d", i, c.b, got, c.want)
		}
	}
	if len(s) != 5 || s[ordinary()] != 4 || s[other] != 2 || s[of()] != 2 || s[of(9, 3)] != 2 || s[of(1, 0)] != 1 {
		t.Errorf("counted: %v", s)
	}
}

// Each of a box's ten numbers tells it from another one.
func TestAddTellsBoxesApart(t *testing.T) {
	s := Set{}
	s.Add(ordinary())
	for place := range places {
		old := ordinary()[place]
		if n := s.Add(with(ordinary(), place, old.Lo-1, old.Hi)); n != 1 {
			t.Errorf("another Lo at %d: %d", place, n)
		}
		if n := s.Add(with(ordinary(), place, old.Lo, old.Hi+1)); n != 1 {
			t.Errorf("another Hi at %d: %d", place, n)
		}
	}
	if n := s.Add(ordinary()); n != 2 || len(s) != 11 {
		t.Errorf("the first again: %d of %d boxes", n, len(s))
	}
}

func TestLargestOfNone(t *testing.T) {
	for range 3 {
		checkLargest(t, nil, api.Box{}, 0)
		checkLargest(t, Set{}, api.Box{}, 0)
	}
}

func TestLargestOfOne(t *testing.T) {
	for _, b := range []api.Box{ordinary(), of(), of(9, 3), of(greatest, least), of(least, least, greatest, greatest)} {
		s := Set{}
		for n := 1; n <= 5; n++ {
			s.Add(b)
			checkLargest(t, s, b, n)
			checkLargest(t, s, b, n)
		}
		if len(s) != 1 || s[b] != 5 {
			t.Errorf("asked for its largest, a Set of %v is %v", b, s)
		}
	}
}

func TestLargestIsCountedMost(t *testing.T) {
	s := Set{}
	low, middle, high := of(-9, 1), of(0, 2), of(7, 8)
	for _, c := range []struct {
		add, want api.Box
		most      int
	}{
		{high, high, 1}, {middle, middle, 1}, {high, high, 2}, {middle, middle, 2}, {low, middle, 2}, {high, high, 3},
		{low, high, 3}, {low, low, 3}, {middle, low, 3}, {high, high, 4},
	} {
		s.Add(c.add)
		for range 10 {
			checkLargest(t, s, c.want, c.most)
		}
	}
}

// ladder is boxes by rising order, each told from the next by another of the ten numbers: the five Los, then the five His.
func ladder() []api.Box {
	b := ordinary()
	list := []api.Box{b}
	// At each rung all that the order asks later falls: asked earlier, it would tell otherwise.
	for place := api.MaxDim; place >= 0; place-- {
		b[place].Hi++
		for later := place + 1; later < places; later++ {
			b[later].Hi -= 20
		}
		list = append(list, b)
	}
	for place := api.MaxDim; place >= 0; place-- {
		b[place].Lo++
		for later := place + 1; later < places; later++ {
			b[later].Lo -= 20
		}
		for each := range places {
			b[each].Hi -= 20
		}
		list = append(list, b)
	}
	return list
}

func TestLargestOfALadder(t *testing.T) {
	list := ladder()
	for i := range list {
		s := Set{}
		for _, b := range list[i:] {
			s.Add(b)
		}
		for range 10 {
			checkLargest(t, s, list[i], 1)
		}
	}
}

// rankBefore says the order once more, by one list of ten numbers.
func rankBefore(a, b api.Box) int {
	key := func(b api.Box) []int {
		var l []int
		for _, s := range b {
			l = append(l, s.Lo)
		}
		for _, s := range b {
			l = append(l, s.Hi)
		}
		return l
	}
	return slices.Compare(key(a), key(b))
}

func TestLargestOfSeveralCountedAlike(t *testing.T) {
	list := ladder()
	list = append(list, of(), of(-1, 0), of(1, 9), of(1, 8), of(1, 5, 2, 2), of(1, 9, 1, 3), of(5, 1), of(4, 9), of(least, greatest), of(least, least),
		of(greatest, least), of(greatest, greatest), of(0, 0, 0, 0, 0, 0, 0, 0, -1, 7), of(0, 0, 0, 0, 0, 0, 0, 0, 0, -7), of(least, 0, greatest, 0), of(least+1, 0, least, 0))
	for _, a := range list {
		for _, b := range list {
			want := a
			if rankBefore(b, a) < 0 {
				want = b
			}
			s := Set{a: 2, b: 2}
			for range 5 {
				checkLargest(t, s, want, 2)
			}
		}
	}
}

func TestLargestByEachNumberInTurn(t *testing.T) {
	for place := range places {
		for _, c := range []struct{ least, other api.Box }{
			{with(of(), place, -1, 0), of()}, {with(of(), place, -1, 99), of()}, {with(of(), place, 0, -1), of()}, {of(), with(of(), place, 1, 0)}, {of(), with(of(), place, 1, -99)}, {of(), with(of(), place, 0, 1)},
			{with(of(), place, least, greatest), with(of(), place, greatest, least)}, {with(of(), place, 0, least), with(of(), place, 0, greatest)},
		} {
			for _, order := range [][]api.Box{{c.least, c.other}, {c.other, c.least}} {
				s := Set{}
				s.Add(order[0])
				s.Add(order[1])
				for range 10 {
					checkLargest(t, s, c.least, 1)
				}
			}
		}
	}
}

// All Los are asked ahead of the first Hi.
func TestLargestByLosAheadOfHis(t *testing.T) {
	for place := 1; place < places; place++ {
		a, b := with(with(of(), 0, 0, 9), place, -1, 9), of(0, 1)
		for range 10 {
			checkLargest(t, Set{a: 1, b: 1}, a, 1)
		}
	}
}

func TestLargestOfMany(t *testing.T) {
	s := Set{}
	for _, b := range small() {
		s.Add(b)
		s.Add(b)
	}
	for _, b := range small()[1:] {
		if n := s.Add(b); n != 3 {
			t.Errorf("Add(%v) = %d", b, n)
		}
	}
	copied := Set{}
	for b, n := range s {
		copied[b] = n
	}
	for range 20 {
		checkLargest(t, s, slices.MinFunc(small()[1:], rankBefore), 3)
	}
	if len(s) != len(copied) {
		t.Errorf("asked for its largest, a Set of %d boxes has %d", len(copied), len(s))
	}
	for b, n := range copied {
		if s[b] != n {
			t.Errorf("asked for its largest, a Set has %d of %v, not %d", s[b], b, n)
		}
	}
}

// Sets that no Add made: counts at the edges of int, and below one.
func TestSetsWithCountsOfTheirOwn(t *testing.T) {
	full := Set{of(1, 9): greatest, of(2, 3): greatest - 1}
	if n := full.Add(of(2, 3)); n != greatest {
		t.Errorf("one more than the greatest but one: %d", n)
	}
	if n := full.Add(of(1, 9)); n != greatest || full[of(1, 9)] != greatest {
		t.Errorf("one more than the greatest: %d", n)
	}
	checkLargest(t, full, of(1, 9), greatest)
	below := Set{of(5, 5): -3, of(4, 4): -2, of(3, 3): -2, of(6, 6): least}
	for range 10 {
		checkLargest(t, below, of(3, 3), -2)
	}
	if n := below.Add(of(6, 6)); n != least+1 {
		t.Errorf("one more than the least: %d", n)
	}
	if n := Set(nil).Add(of(1, 9)); n != 0 {
		t.Errorf("a nil Set has %d", n)
	}
}

// R2: boxes are values: nothing that is handed in changes.
func TestBoxesHandedInStay(t *testing.T) {
	a, b := ordinary(), of(3, 12, 7, 1, 21, 22, -99, 99, 57, 60)
	p, twin := inside()
	s := Set{}
	Meet(a, b)
	Cut(a, 1, 0)
	Cut(b, 1, 5)
	Within(a, b)
	Empty(b)
	Has(a, p, twin)
	low := Low(a)
	low[0] = 99
	s.Add(a)
	kept := a
	a[0].Lo = 77
	if n := s[kept]; n != 1 {
		t.Errorf("a box in a Set changed with the one handed in: %v", s)
	}
	a[0].Lo = 1
	if a != ordinary() || b != of(3, 12, 7, 1, 21, 22, -99, 99, 57, 60) || p != (api.Point{4, 0, 22, -35}) {
		t.Errorf("changed: %v, %v, %v", a, b, p)
	}
}

func TestRunsOfTheChapter(t *testing.T) {
	lower, upper := Cut(Whole(2, api.Span{Lo: 1, Hi: 9}), 1, 4)
	if lower != of(1, 9, 1, 4) || upper != of(1, 9, 5, 9) {
		t.Errorf("Whole(2, (1, 9)) cut at place 1 by 4: %v, %v", lower, upper)
	}
	s := Set{}
	if first, second := s.Add(lower), s.Add(lower); first != 1 || second != 2 {
		t.Errorf("Add twice of one: %d, %d", first, second)
	}
}
