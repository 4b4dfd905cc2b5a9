package query

import (
	"math"
	"slices"
	"testing"

	"copse/api"
	"copse/box"
	"copse/model"
	"copse/node"
)

const (
	least    = math.MinInt64
	greatest = math.MaxInt64
	low32    = math.MinInt32
	high32   = math.MaxInt32
)

var kinds = []int{api.QRange, api.QBest, api.QMono}

// noKinds are below the first and above the last, some of them a kind in their lowest bits.
var noKinds = []int{least, least + 1, -3, -2, -1, 0, 4, 5, 6, 257, 1<<32 + 1, 1<<32 + 2, 1<<32 + 3, greatest - 1, greatest}

func leaf(value int) uint64 { return node.Pack(api.Node{Leaf: true, Value: value}) }

func fork(feature, at, left, right int) uint64 {
	return node.Pack(api.Node{Feature: feature, At: at, Left: left, Right: right})
}

// stump is a tree of one fork.
func stump(class, feature, at, low, high int) api.Tree {
	return api.Tree{Class: class, Nodes: []uint64{fork(feature, at, 1, 2), leaf(low), leaf(high)}}
}

func lone(class, value int) api.Tree {
	return api.Tree{Class: class, Nodes: []uint64{leaf(value)}}
}

// of is a box by Lo, Hi of each place in turn; (0, 0) in all others.
func of(l ...int) api.Box {
	var b api.Box
	for i := 0; i+1 < len(l); i += 2 {
		b[i/2] = api.Span{Lo: l[i], Hi: l[i+1]}
	}
	return b
}

// run is chapter 8's model.
func run() api.Model {
	return api.Model{Dim: 1, Classes: 1, Bias: [3]int{3}, Trees: []api.Tree{stump(0, 0, 5, 10, 20)}}
}

// sized is a right model of so many features and classes, with a tree for the last of each.
func sized(dim, classes int) api.Model {
	return api.Model{Dim: dim, Classes: classes, Bias: [3]int{-4}, Trees: []api.Tree{stump(classes-1, dim-1, 2, 5, 6), lone(0, 9)}}
}

// constants has sums that hang on no feature, one for each class.
func constants(dim int, sums ...int) api.Model {
	m := api.Model{Dim: dim, Classes: len(sums)}
	for class, s := range sums {
		// Half of it as a bias, the rest as a leaf: both have 32 bits, if the sum has.
		m.Bias[class] = s / 2
		m.Trees = append(m.Trees, lone(class, s-s/2))
	}
	return m
}

// ask is a query that is right for every right model of dim and enough classes.
func ask(kind, dim int) api.Query {
	q := api.Query{Kind: kind, Budget: 5}
	for place := range dim {
		q.Region[place] = api.Span{Lo: -3 - place, Hi: 9 + place}
	}
	return q
}

// checkRight asks of a query that is changed from ask.
func checkRight(t *testing.T, what string, m api.Model, kind int, want bool, change func(q *api.Query)) {
	t.Helper()
	q := ask(kind, m.Dim)
	change(&q)
	if got := Right(m, q); got != want {
		t.Errorf("%s: Right(dim %d, classes %d, %+v) = %v", what, m.Dim, m.Classes, q, got)
	}
}

func checkBreaks(t *testing.T, m api.Model, q api.Query, p api.Point, twin int, want bool) {
	t.Helper()
	if !Right(m, q) {
		t.Fatalf("%+v should be right for %+v", q, m)
	}
	if got := Breaks(m, q, p, twin); got != want {
		t.Errorf("Breaks(%+v, %+v, %v, %d) = %v", m, q, p, twin, got)
	}
}

// eachSize is a model of each number of features and classes.
func eachSize() []api.Model {
	var list []api.Model
	for dim := 1; dim <= api.MaxDim; dim++ {
		for classes := 1; classes <= api.MaxClasses; classes++ {
			list = append(list, sized(dim, classes))
		}
	}
	return list
}

// isKindOf tells whether a query of the kind can be right for m: one class alone can't be best.
func isKindOf(m api.Model, kind int) bool { return kind != api.QBest || m.Classes > 1 }

// wrongModels are each of a right model of dim 2 and two classes with one thing that doesn't belong there.
func wrongModels() map[string]api.Model {
	list := map[string]api.Model{"zero": {}}
	add := func(name string, change func(m *api.Model)) {
		m := sized(2, 2)
		change(&m)
		list[name] = m
	}
	add("dim 0", func(m *api.Model) { m.Dim = 0 })
	add("dim 5", func(m *api.Model) { m.Dim = 5 })
	add("dim below a feature", func(m *api.Model) { m.Dim = 1 })
	add("least dim", func(m *api.Model) { m.Dim = least })
	add("greatest dim", func(m *api.Model) { m.Dim = greatest })
	add("classes 0", func(m *api.Model) { m.Classes = 0 })
	add("classes 4", func(m *api.Model) { m.Classes = 4 })
	add("classes below a tree's", func(m *api.Model) { m.Classes = 1 })
	add("greatest classes", func(m *api.Model) { m.Classes = greatest })
	add("great bias", func(m *api.Model) { m.Bias[1] = high32 + 1 })
	add("bias of no class", func(m *api.Model) { m.Bias[2] = 1 })
	add("nine trees", func(m *api.Model) { m.Trees = slices.Repeat([]api.Tree{lone(0, 1)}, 9) })
	add("no nodes", func(m *api.Model) { m.Trees[0].Nodes = nil })
	add("no node", func(m *api.Model) { m.Trees[1].Nodes = []uint64{7} })
	return list
}

func TestRunsOfTheChapter(t *testing.T) {
	m := run()
	q := api.Query{Kind: api.QMono, Region: of(0, 9)}
	checkBreaks(t, m, q, api.Point{5}, 6, false)
	q.Falls = true
	checkBreaks(t, m, q, api.Point{5}, 6, true)
	checkBreaks(t, m, api.Query{Kind: api.QRange, Hi: 20, Region: of(0, 9)}, api.Point{6}, 0, true)
	checkBreaks(t, m, api.Query{Kind: api.QRange, Hi: 20, Region: of(0, 9)}, api.Point{5}, 0, false)
}

func TestRightOfEachKind(t *testing.T) {
	for _, m := range eachSize() {
		for _, kind := range kinds {
			checkRight(t, "each kind", m, kind, isKindOf(m, kind), func(q *api.Query) {})
		}
		for _, kind := range noKinds {
			checkRight(t, "no kind", m, kind, false, func(q *api.Query) {})
			checkRight(t, "no kind", m, kind, false, func(q *api.Query) { q.Falls = true })
		}
	}
	if Right(sized(2, 2), api.Query{}) {
		t.Error("a zero query is right")
	}
}

func TestWrongModelsHaveNoRightQueries(t *testing.T) {
	for name, m := range wrongModels() {
		if model.Right(m) {
			t.Fatalf("%s should not be right", name)
		}
		for _, kind := range slices.Concat(kinds, noKinds) {
			for dim := range api.MaxDim + 1 {
				for _, q := range []api.Query{ask(kind, dim), {Kind: kind}} {
					if Right(m, q) {
						t.Errorf("%s: Right(%+v) = true", name, q)
					}
					for _, p := range []api.Point{{}, {2, 2}, {least, greatest, least, greatest}} {
						if Breaks(m, q, p, 9) {
							t.Errorf("%s: Breaks(%+v, %v, 9) = true", name, q, p)
						}
					}
				}
			}
		}
	}
}

// Models without trees are right too: nothing but their sizes and biases is asked.
func TestRightOfModelsWithoutTrees(t *testing.T) {
	for dim := 1; dim <= api.MaxDim; dim++ {
		for classes := 1; classes <= api.MaxClasses; classes++ {
			m := api.Model{Dim: dim, Classes: classes}
			for _, kind := range kinds {
				checkRight(t, "no trees", m, kind, isKindOf(m, kind), func(q *api.Query) {})
			}
		}
	}
}

func TestRightClasses(t *testing.T) {
	for _, m := range eachSize() {
		for _, kind := range kinds {
			for _, class := range []int{least, least + 1, -2, -1, 0, 1, 2, 3, 4, 255, 256, 1 << 32, 1<<32 + 1, greatest} {
				want := class >= 0 && class < m.Classes && isKindOf(m, kind)
				checkRight(t, "class", m, kind, want, func(q *api.Query) { q.Class = class })
			}
		}
	}
}

func TestRightBudgets(t *testing.T) {
	if api.MaxBudget != 65536 {
		t.Fatal("MaxBudget is", api.MaxBudget)
	}
	for _, kind := range kinds {
		for _, budget := range []int{0, 1, 2, 65535, 65536} {
			checkRight(t, "budget", sized(2, 2), kind, true, func(q *api.Query) { q.Budget = budget })
		}
		for _, budget := range []int{least, least + 1, -65536, -1, 65537, 65538, 1 << 32, 1<<32 + 1, greatest - 1, greatest} {
			checkRight(t, "budget", sized(2, 2), kind, false, func(q *api.Query) { q.Budget = budget })
		}
	}
}

func TestRightSpansOfTheFirstPlaces(t *testing.T) {
	for dim := 1; dim <= api.MaxDim; dim++ {
		for _, kind := range kinds {
			for place := range dim {
				for _, c := range []struct {
					lo, hi int
					want   bool
				}{
					{0, 0, true}, {4, 4, true}, {-4, -4, true}, {low32, low32, true}, {high32, high32, true}, {low32, high32, true}, {low32, 0, true}, {0, high32, true}, {high32 - 1, high32, true},
					{1, 0, false}, {5, 4, false}, {-4, -5, false}, {high32, low32, false}, {0, -1, false}, {greatest, least, false}, {low32 + 1, low32, false}, {high32, high32 - 1, false},
					{low32 - 1, 0, false}, {low32 - 1, low32 - 1, false}, {low32 - 1, high32, false}, {least, 0, false}, {least, least, false},
					{0, high32 + 1, false}, {high32 + 1, high32 + 1, false}, {low32, high32 + 1, false}, {0, greatest, false}, {greatest, greatest, false}, {least, greatest, false},
					{0, 1 << 32, false}, {-1 << 32, 0, false}, {1 << 32, 1 << 32, false}, {0, math.MaxUint32, false}, {1 << 32, 5, false}, {5, -1 << 32, false},
				} {
					checkRight(t, "span", sized(dim, 2), kind, c.want, func(q *api.Query) { q.Region[place] = api.Span{Lo: c.lo, Hi: c.hi} })
				}
			}
		}
	}
}

func TestRightSpansOfTheOtherPlaces(t *testing.T) {
	others := []api.Span{{Lo: 0, Hi: 1}, {Lo: -1, Hi: 0}, {Lo: 1, Hi: 1}, {Lo: -1, Hi: -1}, {Lo: -3, Hi: 9}, {Lo: 1, Hi: 0}, {Lo: 0, Hi: -1}, {Lo: low32, Hi: high32}, {Lo: 0, Hi: high32 + 1}, {Lo: least, Hi: greatest}, {Lo: greatest, Hi: least}, {Lo: 0, Hi: 1 << 32}, {Lo: 1 << 32, Hi: 1 << 32}}
	for dim := 1; dim <= api.MaxDim; dim++ {
		for _, kind := range kinds {
			for place := dim; place <= api.Twin; place++ {
				for _, s := range others {
					checkRight(t, "other place", sized(dim, 2), kind, false, func(q *api.Query) { q.Region[place] = s })
				}
				checkRight(t, "other place", sized(dim, 2), kind, true, func(q *api.Query) { q.Region[place] = api.Span{} })
			}
			// What Start makes of a query of pairs isn't to be asked.
			checkRight(t, "the Feature's span twice", sized(dim, 2), kind, false, func(q *api.Query) { q.Region[api.Twin] = q.Region[q.Feature] })
		}
	}
}

// (0, 0) has a number too: a query is right for models of more features than its region has spans of, but not of fewer.
func TestRightOfRegionsOfAnotherDim(t *testing.T) {
	for _, kind := range kinds {
		for asked := 1; asked <= api.MaxDim; asked++ {
			for dim := 1; dim <= api.MaxDim; dim++ {
				if got := Right(sized(dim, 2), ask(kind, asked)); got != (asked <= dim) {
					t.Errorf("Right of kind %d, a region of %d places, dim %d = %v", kind, asked, dim, got)
				}
			}
		}
	}
}

func TestRightRanges(t *testing.T) {
	for _, m := range eachSize() {
		for _, c := range []struct {
			lo, hi int
			want   bool
		}{
			{0, 0, true}, {7, 7, true}, {-7, -7, true}, {0, 1, true}, {-1, 0, true}, {3, 8, true}, {-8, -3, true}, {1, 0, false}, {0, -1, false}, {8, 3, false}, {-3, -8, false},
			{least, greatest, true}, {least, least, true}, {greatest, greatest, true}, {greatest, least, false}, {0, greatest, true}, {least, 0, true}, {greatest, 0, false}, {0, least, false},
			{greatest - 1, greatest, true}, {greatest, greatest - 1, false}, {least, least + 1, true}, {least + 1, least, false}, {low32 - 1, high32 + 1, true}, {1 << 32, 1, false}, {1, 1 << 32, true},
		} {
			checkRight(t, "range", m, api.QRange, c.want, func(q *api.Query) { q.Lo, q.Hi = c.lo, c.hi })
		}
	}
}

func TestRightFieldsThatAKindDoesNotHave(t *testing.T) {
	numbers := []int{least, -1 << 32, low32, -2, -1, 1, 2, 3, 4, high32, 1 << 32, greatest}
	for _, m := range eachSize() {
		for _, n := range numbers {
			for _, kind := range []int{api.QBest, api.QMono} {
				checkRight(t, "Lo", m, kind, false, func(q *api.Query) { q.Lo = n })
				checkRight(t, "Hi", m, kind, false, func(q *api.Query) { q.Hi = n })
				checkRight(t, "Lo and Hi", m, kind, false, func(q *api.Query) { q.Lo, q.Hi = n, n })
				checkRight(t, "a range", m, kind, false, func(q *api.Query) { q.Lo, q.Hi = least, greatest })
			}
			for _, kind := range []int{api.QRange, api.QBest} {
				checkRight(t, "Feature", m, kind, false, func(q *api.Query) { q.Feature = n })
			}
		}
		for _, kind := range []int{api.QRange, api.QBest} {
			checkRight(t, "Falls", m, kind, false, func(q *api.Query) { q.Falls = true })
		}
		checkRight(t, "Falls", m, api.QMono, true, func(q *api.Query) { q.Falls = true })
	}
}

func TestRightBestNeedsTwoClasses(t *testing.T) {
	for dim := 1; dim <= api.MaxDim; dim++ {
		for classes := 1; classes <= api.MaxClasses; classes++ {
			for class := range classes {
				checkRight(t, "best", sized(dim, classes), api.QBest, classes >= 2, func(q *api.Query) { q.Class = class })
			}
		}
	}
}

// features are all that are none and all that are one.
var features = []int{least, least + 1, -1 << 32, -5, -2, -1, 0, 1, 2, 3, 4, 5, 16, 256, 1 << 32, 1<<32 + 1, greatest - 1, greatest}

func TestRightFeatures(t *testing.T) {
	for _, m := range eachSize() {
		for _, feature := range features {
			for _, falls := range []bool{false, true} {
				want := feature >= 0 && feature < m.Dim
				checkRight(t, "feature", m, api.QMono, want, func(q *api.Query) { q.Feature, q.Falls = feature, falls })
			}
		}
	}
}

func TestStartOfPairs(t *testing.T) {
	spans := []int{1, 2, -3, 4, low32, high32, 7, 7}
	for feature, want := range []api.Span{{Lo: 1, Hi: 2}, {Lo: -3, Hi: 4}, {Lo: low32, Hi: high32}, {Lo: 7, Hi: 7}} {
		for _, twin := range []api.Span{{}, {Lo: 5, Hi: 6}, {Lo: 1, Hi: 0}, {Lo: greatest, Hi: least}} {
			for _, falls := range []bool{false, true} {
				q := api.Query{Kind: api.QMono, Feature: feature, Falls: falls, Region: of(spans...)}
				q.Region[api.Twin] = twin
				expected := of(spans...)
				expected[api.Twin] = want
				if got := Start(q); got != expected {
					t.Errorf("Start(%+v) = %v", q, got)
				}
			}
		}
	}
}

func TestStartOfOthers(t *testing.T) {
	spans := []int{1, 2, -3, 4, 5, 1, least, greatest}
	for _, twin := range []api.Span{{}, {Lo: 5, Hi: 6}, {Lo: 1, Hi: 0}, {Lo: least, Hi: greatest}} {
		for _, feature := range features {
			for _, kind := range slices.Concat(kinds, noKinds) {
				if kind == api.QMono && feature >= 0 && feature < api.MaxDim {
					continue
				}
				for _, falls := range []bool{false, true} {
					q := api.Query{Kind: kind, Feature: feature, Falls: falls, Region: of(spans...)}
					q.Region[api.Twin] = twin
					if got := Start(q); got != of(spans...) {
						t.Errorf("Start(%+v) = %v", q, got)
					}
				}
			}
		}
	}
}

// Whether a query is right hangs on a model: Start and Second tell the same of those that aren't right for any.
func TestStartAndSecondOfQueriesThatAreNotRight(t *testing.T) {
	q := api.Query{Kind: api.QMono, Class: -1, Feature: 3, Lo: 5, Hi: 4, Budget: -7, Region: of(1, 0, 5, 4, 3, 2, greatest, least, 9, 9)}
	if got := Start(q); got != of(1, 0, 5, 4, 3, 2, greatest, least, greatest, least) {
		t.Errorf("Start(%+v) = %v", q, got)
	}
	if got := Second(q, api.Point{1, 2, 3, 4}, 99); got != (api.Point{1, 2, 3, 99}) {
		t.Errorf("Second(%+v) = %v", q, got)
	}
	if got := Start(api.Query{}); got != (api.Box{}) {
		t.Errorf("Start of a zero query = %v", got)
	}
	if got := Second(api.Query{}, api.Point{1, 2, 3, 4}, 99); got != (api.Point{1, 2, 3, 4}) {
		t.Errorf("Second of a zero query = %v", got)
	}
}

func TestSecondOfPairs(t *testing.T) {
	for feature := range api.MaxDim {
		for _, twin := range []int{least, low32 - 1, low32, -1, 0, 5, 6, 7, high32, high32 + 1, greatest} {
			for _, p := range []api.Point{{}, {5, 6, 7, 8}, {twin, twin, twin, twin}, {least, greatest, least, greatest}} {
				want := p
				want[feature] = twin
				for _, falls := range []bool{false, true} {
					if got := Second(api.Query{Kind: api.QMono, Feature: feature, Falls: falls}, p, twin); got != want {
						t.Errorf("Second of feature %d of %v, %d = %v", feature, p, twin, got)
					}
				}
			}
		}
	}
}

func TestSecondOfOthers(t *testing.T) {
	for _, feature := range features {
		for _, kind := range slices.Concat(kinds, noKinds) {
			if kind == api.QMono && feature >= 0 && feature < api.MaxDim {
				continue
			}
			for _, p := range []api.Point{{}, {5, 6, 7, 8}, {least, greatest, least, greatest}} {
				for _, twin := range []int{least, -9, 0, 9, greatest} {
					if got := Second(api.Query{Kind: kind, Feature: feature, Falls: twin == 9}, p, twin); got != p {
						t.Errorf("Second of kind %d, feature %d of %v, %d = %v", kind, feature, p, twin, got)
					}
				}
			}
		}
	}
}

func TestBreaksARange(t *testing.T) {
	for _, sum := range []int{-20, -1, 0, 1, 20, low32, high32, 2 * low32, 2 * high32} {
		for class := range 3 {
			sums := []int{sum / 3, sum / 3, sum / 3}
			sums[class] = sum
			m := constants(2, sums...)
			for _, c := range []struct {
				lo, hi int
				want   bool
			}{
				{sum, sum, false}, {sum - 1, sum, false}, {sum, sum + 1, false}, {sum - 1, sum + 1, false}, {sum + 1, sum + 1, true}, {sum - 1, sum - 1, true}, {sum + 1, sum + 5, true}, {sum - 5, sum - 1, true},
				{least, greatest, false}, {least, sum, false}, {sum, greatest, false}, {least, sum - 1, true}, {sum + 1, greatest, true}, {least, least, true}, {greatest, greatest, true},
				{sum + 1<<32, sum + 1<<32, true}, {sum - 1<<32, sum - 1<<32, true},
			} {
				q := ask(api.QRange, 2)
				q.Class, q.Lo, q.Hi = class, c.lo, c.hi
				// The twin is nothing to a range.
				for _, twin := range []int{least, -9, 0, 9, greatest} {
					checkBreaks(t, m, q, api.Point{4, 5}, twin, c.want)
				}
			}
		}
	}
}

// The greatest and the least sums that a model can have are beyond 32 bits.
func TestBreaksARangeOfTheGreatestSums(t *testing.T) {
	for _, n := range []int{low32, high32} {
		m := api.Model{Dim: 1, Classes: 1, Bias: [3]int{n}, Trees: slices.Repeat([]api.Tree{lone(0, n)}, api.MaxTrees)}
		sum := 9 * n
		for _, c := range []struct {
			lo, hi int
			want   bool
		}{{sum, sum, false}, {sum + 1, greatest, true}, {least, sum - 1, true}, {sum - 1, sum + 1, false}, {low32, high32, true}} {
			checkBreaks(t, m, api.Query{Kind: api.QRange, Lo: c.lo, Hi: c.hi}, api.Point{}, 0, c.want)
		}
	}
}

func TestBreaksARangeAtThresholds(t *testing.T) {
	for dim := 1; dim <= api.MaxDim; dim++ {
		for feature := range dim {
			for _, at := range []int{low32, -6, -1, 0, 5, high32} {
				m := api.Model{Dim: dim, Classes: 2, Bias: [3]int{100, 3}, Trees: []api.Tree{stump(1, feature, at, 10, 20)}}
				for _, n := range []int{least, at - 1, at, at + 1, greatest} {
					p := api.Point{greatest, greatest, greatest, greatest}
					p[feature] = n
					low, high := api.Query{Kind: api.QRange, Class: 1, Lo: 13, Hi: 13}, api.Query{Kind: api.QRange, Class: 1, Lo: 23, Hi: 23}
					checkBreaks(t, m, low, p, 0, n > at)
					checkBreaks(t, m, high, p, 0, n <= at)
				}
			}
		}
	}
}

// All orders of three sums, ties among them, in models of two and three classes.
func TestBreaksBest(t *testing.T) {
	for classes := 2; classes <= api.MaxClasses; classes++ {
		for number := range 5 * 5 * 5 {
			sums := []int{number%5 - 2, number/5%5 - 2, number/25 - 2}[:classes]
			m := constants(3, sums...)
			for class, own := range sums {
				others := slices.Delete(slices.Clone(sums), class, class+1)
				q := ask(api.QBest, 3)
				q.Class = class
				for _, twin := range []int{least, 0, greatest} {
					checkBreaks(t, m, q, api.Point{1, 2, 3}, twin, slices.Max(others) >= own)
				}
			}
		}
	}
}

// What stands behind the last class is 0, which is greater than most sums here.
func TestBreaksBestOfSumsBelowZero(t *testing.T) {
	for _, c := range []struct {
		sums  []int
		class int
		want  bool
	}{
		{[]int{-5, -6}, 0, false}, {[]int{-5, -6}, 1, true}, {[]int{-5, -5}, 0, true}, {[]int{-5, -5}, 1, true}, {[]int{-6, -5}, 1, false}, {[]int{low32 + 1, low32}, 0, false}, {[]int{low32, low32}, 0, true},
		{[]int{-3, -2, -1}, 2, false}, {[]int{-3, -2, -1}, 1, true}, {[]int{-1, -2, -3}, 0, false}, {[]int{-2, -1, -2}, 1, false}, {[]int{-2, -1, -1}, 1, true}, {[]int{high32, low32}, 0, false}, {[]int{low32, high32}, 0, true},
	} {
		checkBreaks(t, constants(1, c.sums...), api.Query{Kind: api.QBest, Class: c.class}, api.Point{}, 0, c.want)
	}
}

func TestBreaksBestAtThresholds(t *testing.T) {
	m := api.Model{Dim: 2, Classes: 3, Bias: [3]int{0, 1, 2}, Trees: []api.Tree{stump(0, 1, 0, 9, 1), stump(1, 1, 10, 1, 5), stump(2, 1, 20, 0, 8)}}
	for _, c := range []struct {
		n    int
		want [3]bool
	}{
		{least, [3]bool{false, true, true}}, {0, [3]bool{false, true, true}}, {1, [3]bool{true, true, true}}, {10, [3]bool{true, true, true}},
		{11, [3]bool{true, false, true}}, {20, [3]bool{true, false, true}}, {21, [3]bool{true, true, false}}, {greatest, [3]bool{true, true, false}},
	} {
		for class, want := range c.want {
			checkBreaks(t, m, api.Query{Kind: api.QBest, Class: class}, api.Point{0, c.n}, 0, want)
		}
	}
}

// hill rises with the feature up to 0, is the same up to 5, and falls from there on.
func hill(dim, feature int) api.Model {
	return api.Model{Dim: dim, Classes: 2, Bias: [3]int{50, 3}, Trees: []api.Tree{
		{Class: 1, Nodes: []uint64{fork(feature, 0, 1, 2), leaf(10), fork(feature, 5, 3, 4), leaf(20), leaf(15)}},
	}}
}

func TestBreaksPairs(t *testing.T) {
	for dim := 1; dim <= api.MaxDim; dim++ {
		for feature := range dim {
			for _, c := range []struct {
				n, twin      int
				rises, falls bool
			}{
				{0, 1, false, true}, {0, 5, false, true}, {0, 6, false, true}, {-9, 0, false, false}, {-9, 9, false, true}, {1, 5, false, false}, {5, 6, true, false}, {1, 6, true, false}, {6, 7, false, false},
				{0, 0, false, false}, {1, 0, false, false}, {6, 5, false, false}, {6, 0, false, false}, {6, 6, false, false}, {5, 5, false, false}, {5, 0, false, false}, {9, -9, false, false}, {7, 6, false, false},
				{low32, high32, false, true}, {high32, low32, false, false}, {low32, low32, false, false}, {high32, high32, false, false}, {low32, 3, false, true}, {3, high32, true, false}, {3, low32, false, false}, {high32, 3, false, false},
				{least, greatest, false, true}, {greatest, least, false, false}, {least, 3, false, true}, {3, greatest, true, false}, {3, least, false, false}, {greatest, greatest, false, false}, {least, least, false, false},
			} {
				p := api.Point{-1, 7, 2, 9}
				p[feature] = c.n
				q := ask(api.QMono, dim)
				q.Class, q.Feature = 1, feature
				checkBreaks(t, hill(dim, feature), q, p, c.twin, c.rises)
				q.Falls = true
				checkBreaks(t, hill(dim, feature), q, p, c.twin, c.falls)
			}
		}
	}
}

// Another class, or another feature, is nothing to a pair.
func TestBreaksPairsOfOneClassAndFeature(t *testing.T) {
	for _, n := range []int{low32, -9, 0, 1, 5, 6, high32} {
		for _, twin := range []int{low32, -9, 0, 1, 5, 6, 7, high32} {
			for _, falls := range []bool{false, true} {
				p := api.Point{n, n, n, n}
				for feature := range api.MaxDim {
					q := api.Query{Kind: api.QMono, Feature: feature, Falls: falls}
					checkBreaks(t, hill(4, feature), q, p, twin, false)
					q.Class, q.Feature = 1, (feature+1)%api.MaxDim
					checkBreaks(t, hill(4, feature), q, p, twin, false)
				}
			}
		}
	}
}

// Sums whose difference is beyond 32 bits.
func TestBreaksPairsOfGreatSums(t *testing.T) {
	m := api.Model{Dim: 1, Classes: 1, Trees: slices.Repeat([]api.Tree{stump(0, 0, 0, low32, high32)}, api.MaxTrees)}
	checkBreaks(t, m, api.Query{Kind: api.QMono}, api.Point{0}, 1, false)
	checkBreaks(t, m, api.Query{Kind: api.QMono, Falls: true}, api.Point{0}, 1, true)
	m.Trees = slices.Repeat([]api.Tree{stump(0, 0, 0, high32, low32)}, api.MaxTrees)
	checkBreaks(t, m, api.Query{Kind: api.QMono}, api.Point{0}, 1, true)
	checkBreaks(t, m, api.Query{Kind: api.QMono, Falls: true}, api.Point{0}, 1, false)
}

// Each of these would be broken, if the query were right.
func TestQueriesThatAreNotRightAreNotBroken(t *testing.T) {
	m := api.Model{Dim: 2, Classes: 2, Bias: [3]int{0, 50}, Trees: []api.Tree{stump(0, 0, 5, 20, 10), stump(0, 1, 5, 20, 10)}}
	p, twin := api.Point{0, 0}, 9
	for _, kind := range kinds {
		right := ask(kind, 2)
		if kind == api.QRange {
			// The sum of a class that isn't there is 0: it would break this range too.
			right.Lo, right.Hi = 1, 1
		}
		checkBreaks(t, m, right, p, twin, true)
		for name, change := range map[string]func(q *api.Query){
			"kind 0":           func(q *api.Query) { q.Kind = 0 },
			"kind 4":           func(q *api.Query) { q.Kind = 4 },
			"class -1":         func(q *api.Query) { q.Class = -1 },
			"class 2":          func(q *api.Query) { q.Class = 2 },
			"least class":      func(q *api.Query) { q.Class = least },
			"budget -1":        func(q *api.Query) { q.Budget = -1 },
			"budget above":     func(q *api.Query) { q.Budget = api.MaxBudget + 1 },
			"empty span":       func(q *api.Query) { q.Region[1] = api.Span{Lo: 1, Hi: 0} },
			"span beyond":      func(q *api.Query) { q.Region[0].Hi = high32 + 1 },
			"a third span":     func(q *api.Query) { q.Region[2].Hi = 1 },
			"a span at Twin":   func(q *api.Query) { q.Region[api.Twin] = q.Region[0] },
			"Lo above Hi":      func(q *api.Query) { q.Lo, q.Hi = 1, 0 },
			"feature -1":       func(q *api.Query) { q.Feature = -1 },
			"feature 2":        func(q *api.Query) { q.Feature = 2 },
			"feature 4":        func(q *api.Query) { q.Feature = api.MaxDim },
			"greatest feature": func(q *api.Query) { q.Feature = greatest },
			"least feature":    func(q *api.Query) { q.Feature = least },
		} {
			q := right
			change(&q)
			if Right(m, q) || Breaks(m, q, p, twin) {
				t.Errorf("kind %d, %s: %+v is right, or broken", kind, name, q)
			}
		}
		if right.Falls = true; kind != api.QMono && Breaks(m, right, p, twin) {
			t.Errorf("kind %d that falls is broken", kind)
		}
	}
	if Breaks(run(), api.Query{Kind: api.QBest}, api.Point{}, 0) {
		t.Error("one class alone is broken")
	}
}

// Whether a point, or its twin, is in Region isn't asked.
func TestBreaksOutsideTheRegion(t *testing.T) {
	for _, region := range []api.Box{of(0, 0), of(-3, 12), of(100, 200), of(low32, low32), of(high32, high32)} {
		m := hill(1, 0)
		for _, n := range []int{least, low32, -50, 0, 3, 50, high32, greatest} {
			p := api.Point{n, 77, -77, greatest}
			sum := 13
			if n > 5 {
				sum = 18
			} else if n > 0 {
				sum = 23
			}
			checkBreaks(t, m, api.Query{Kind: api.QRange, Class: 1, Lo: 13, Hi: 18, Region: region}, p, 99, sum == 23)
			checkBreaks(t, m, api.Query{Kind: api.QBest, Region: region}, p, 99, false)
			checkBreaks(t, m, api.Query{Kind: api.QBest, Class: 1, Region: region}, p, 99, true)
			checkBreaks(t, m, api.Query{Kind: api.QMono, Class: 1, Region: region}, p, 99, n < 99 && sum == 23)
			checkBreaks(t, m, api.Query{Kind: api.QMono, Class: 1, Falls: true, Region: region}, p, 99, n < 99 && sum == 13)
		}
	}
}

// dice tell numbers by a rule of their own, so that each run of the tests makes the same models.
type dice struct{ state uint64 }

func (d *dice) below(n int) int {
	d.state = d.state*6364136223846793005 + 1442695040888963407
	return int(d.state>>33) % n
}

// grown is a model of small numbers, so that many of its sums are the same.
func grown(d *dice, dim int) api.Model {
	m := api.Model{Dim: dim, Classes: 1 + d.below(3)}
	for class := range m.Classes {
		m.Bias[class] = d.below(3) - 1
	}
	for range d.below(5) {
		class, f, g := d.below(m.Classes), d.below(dim), d.below(dim)
		m.Trees = append(m.Trees, api.Tree{Class: class, Nodes: []uint64{
			fork(f, d.below(5)-2, 1, 2), leaf(d.below(4) - 1), fork(g, d.below(5)-2, 4, 3), leaf(d.below(4) - 1), leaf(d.below(4) - 1),
		}})
	}
	return m
}

// asked is a query that is right for m.
func asked(d *dice, m api.Model) api.Query {
	q := api.Query{Kind: kinds[d.below(3)], Class: d.below(m.Classes)}
	if q.Kind == api.QBest && m.Classes == 1 {
		q.Kind = api.QRange
	}
	switch q.Kind {
	case api.QRange:
		q.Lo = d.below(4) - 3
		q.Hi = q.Lo + d.below(7)
	case api.QMono:
		q.Feature, q.Falls = d.below(m.Dim), d.below(2) == 1
	}
	for place := range m.Dim {
		q.Region[place].Lo = d.below(6) - 4
		q.Region[place].Hi = q.Region[place].Lo + d.below(5)
	}
	return q
}

// valueOf goes down a right tree from the node at the place at.
func valueOf(l []uint64, at int, p api.Point) int {
	n, _ := node.Unpack(l[at])
	if n.Leaf {
		return n.Value
	}
	if p[n.Feature] > n.At {
		return valueOf(l, n.Right, p)
	}
	return valueOf(l, n.Left, p)
}

// sums are those of all classes at p, tree by tree.
func sums(m api.Model, p api.Point) []int {
	list := slices.Clone(m.Bias[:m.Classes])
	for _, t := range m.Trees {
		list[t.Class] += valueOf(t.Nodes, 0, p)
	}
	return list
}

// pointsIn are all points of the first dim places' spans.
func pointsIn(b api.Box, dim int) []api.Point {
	list := []api.Point{{}}
	for place := range dim {
		var longer []api.Point
		for _, p := range list {
			for n := b[place].Lo; n <= b[place].Hi; n++ {
				p[place] = n
				longer = append(longer, p)
			}
		}
		list = longer
	}
	return list
}

// holdsAt says of one point of the region what a query that holds says of all of them.
func holdsAt(m api.Model, q api.Query, p api.Point) bool {
	list := sums(m, p)
	own := list[q.Class]
	switch q.Kind {
	case api.QRange:
		return q.Lo <= own && own <= q.Hi
	case api.QBest:
		best := slices.Max(list)
		return own == best && slices.Index(list, best) == q.Class && !slices.Contains(list[q.Class+1:], best)
	}
	for n := p[q.Feature] + 1; n <= q.Region[q.Feature].Hi; n++ {
		p[q.Feature] = n
		later := sums(m, p)[q.Class]
		if q.Falls && later > own || !q.Falls && later < own {
			return false
		}
	}
	return true
}

// breaksAt says whether p, with some twin of Start, breaks the query.
func breaksAt(m api.Model, q api.Query, p api.Point) bool {
	start := Start(q)
	for twin := start[api.Twin].Lo; twin <= start[api.Twin].Hi; twin++ {
		if !box.Has(start, p, twin) {
			return false
		}
		if Breaks(m, q, p, twin) {
			return true
		}
	}
	return false
}

// P10.4: a query holds, if nothing of Start breaks it.
func TestAQueryHoldsIfNothingOfStartBreaksIt(t *testing.T) {
	d := &dice{10}
	var held, broken [api.QMono + 1]int
	for range 3000 {
		m := grown(d, 1+d.below(3))
		q := asked(d, m)
		if !Right(m, q) {
			t.Fatalf("%+v should be right for %+v", q, m)
		}
		holds := true
		for _, p := range pointsIn(q.Region, m.Dim) {
			want := holdsAt(m, q, p)
			if breaksAt(m, q, p) == want {
				t.Errorf("%+v: %+v holds at %v: %v", m, q, p, want)
			}
			holds = holds && want
		}
		if holds {
			held[q.Kind]++
		} else {
			broken[q.Kind]++
		}
	}
	for _, kind := range kinds {
		if held[kind] < 50 || broken[kind] < 50 {
			t.Errorf("of kind %d %d hold, %d don't: too few to tell by", kind, held[kind], broken[kind])
		}
	}
}

// Start has all of the region, with 0 as the second of what is no pair, and all pairs of what is one.
func TestStartHasTheRegion(t *testing.T) {
	d := &dice{104}
	for range 300 {
		m := grown(d, 1+d.below(3))
		q := asked(d, m)
		start := Start(q)
		if box.Empty(start) {
			t.Errorf("Start(%+v) is empty", q)
		}
		for _, p := range pointsIn(of(-6, 6, -6, 6, -1, 1), 3) {
			for twin := -6; twin <= 6; twin++ {
				want := box.Has(q.Region, p, 0) && twin == 0
				if q.Kind == api.QMono {
					want = box.Has(q.Region, p, 0) && box.Has(q.Region, Second(q, p, twin), 0)
				}
				if got := box.Has(start, p, twin); got != want {
					t.Errorf("Start(%+v) has %v, %d: %v", q, p, twin, got)
				}
			}
		}
	}
}

// roomy is m with words and trees in the room behind its lists.
func roomy(m api.Model) api.Model {
	m.Trees = append(slices.Clone(m.Trees), lone(0, 1), api.Tree{Class: 7})[:len(m.Trees)]
	for i, t := range m.Trees {
		m.Trees[i].Nodes = append(slices.Clone(t.Nodes), leaf(1), 3, fork(0, 1, 1, 2))[:len(t.Nodes)]
	}
	return m
}

// withRoom is a copy of m whose lists are as long as their room, so that what stands there is held too.
func withRoom(m api.Model) api.Model {
	m.Trees = slices.Clone(m.Trees[:cap(m.Trees)])
	for i, t := range m.Trees {
		m.Trees[i].Nodes = slices.Clone(t.Nodes[:cap(t.Nodes)])
	}
	return m
}

func alike(a, b api.Model) bool {
	return a.Dim == b.Dim && a.Classes == b.Classes && a.Bias == b.Bias && slices.EqualFunc(a.Trees, b.Trees, func(s, t api.Tree) bool {
		return s.Class == t.Class && slices.Equal(s.Nodes, t.Nodes)
	})
}

func TestNothingHandedInIsChanged(t *testing.T) {
	list := append(eachSize(), run(), hill(3, 2))
	for _, m := range wrongModels() {
		list = append(list, m)
	}
	for _, plain := range list {
		m := roomy(plain)
		before := withRoom(m)
		for _, kind := range slices.Concat(kinds, noKinds) {
			for _, feature := range features {
				q := ask(kind, min(max(m.Dim, 0), api.MaxDim))
				q.Feature = feature
				p := api.Point{1, -1, 2, 0}
				keptQuery, keptPoint := q, p
				Right(m, q)
				Breaks(m, q, p, 9)
				start, second := Start(q), Second(q, p, 9)
				start[0].Lo, start[api.Twin].Hi, second[0] = 99, 99, 99
				if q != keptQuery || p != keptPoint {
					t.Errorf("%+v, %v are now %+v, %v", keptQuery, keptPoint, q, p)
				}
			}
		}
		if !alike(withRoom(m), before) || !alike(m, plain) {
			t.Errorf("%+v is now %+v", plain, m)
		}
	}
}

// What stands in the room behind a model's lists is not asked.
func TestRoomBehindAModelIsNotRead(t *testing.T) {
	for _, plain := range eachSize() {
		m := roomy(plain)
		for _, kind := range kinds {
			q := ask(kind, m.Dim)
			if Right(m, q) != Right(plain, q) {
				t.Errorf("Right(%+v) with room = %v", q, Right(m, q))
			}
			for _, p := range []api.Point{{}, {2, 2, 2, 2}, {3, 3, 3, 3}} {
				if Breaks(m, q, p, 9) != Breaks(plain, q, p, 9) {
					t.Errorf("Breaks(%+v, %v, 9) with room = %v", q, p, Breaks(m, q, p, 9))
				}
			}
		}
	}
}

// R1: no number makes a call panic.
func TestNoNumberPanics(t *testing.T) {
	numbers := []int{least, -1, 0, 1, 3, 4, 5, greatest}
	m := sized(2, 2)
	for _, n := range numbers {
		for _, k := range numbers {
			for _, kind := range slices.Concat(kinds, noKinds) {
				q := api.Query{Kind: kind, Class: n, Lo: n, Hi: k, Feature: k, Falls: n > k, Budget: n, Region: of(n, k, k, n, n, n, k, k, n, k)}
				p := api.Point{n, k, n, k}
				Right(m, q)
				Breaks(m, q, p, k)
				Start(q)
				Second(q, p, n)
			}
		}
	}
}
