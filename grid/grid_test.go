package grid

import (
	"math"
	"reflect"
	"slices"
	"testing"

	"copse/api"
	"copse/box"
	"copse/model"
	"copse/node"
	"copse/query"
)

const (
	least    = math.MinInt64
	greatest = math.MaxInt64
	low32    = math.MinInt32
	high32   = math.MaxInt32
	// plenty is above the cells of all boxes here.
	plenty = 1 << 40
)

var kinds = []int{api.QRange, api.QBest, api.QMono}

// places are all that a box has, and some that it hasn't.
var places = []int{0, 1, 2, 3, api.Twin}
var noPlaces = []int{least, least + 1, -1 << 32, -5, -2, -1, 5, 6, 7, 15, 16, 256, 1 << 32, 1<<32 + 1, 1<<32 + 4, greatest - 1, greatest}

func leaf(value int) uint64 { return node.Pack(api.Node{Leaf: true, Value: value}) }

func fork(feature, at, left, right int) uint64 {
	return node.Pack(api.Node{Feature: feature, At: at, Left: left, Right: right})
}

// stump is a tree of one fork.
func stump(class, feature, at, low, high int) api.Tree {
	return api.Tree{Class: class, Nodes: []uint64{fork(feature, at, 1, 2), leaf(low), leaf(high)}}
}

// steps is a tree that parts the feature at each of ats, which rise: its value is how many of them a point is above.
func steps(class, feature int, ats ...int) api.Tree {
	var nodes []uint64
	for i, at := range ats {
		nodes = append(nodes, fork(feature, at, 2*i+1, 2*i+2), leaf(i))
	}
	return api.Tree{Class: class, Nodes: append(nodes, leaf(len(ats)))}
}

// of is a box by Lo, Hi of each place in turn; (0, 0) in all others.
func of(l ...int) api.Box {
	var b api.Box
	for i := 0; i+1 < len(l); i += 2 {
		b[i/2] = api.Span{Lo: l[i], Hi: l[i+1]}
	}
	return b
}

// run is chapter 8's model.
func run() api.Model {
	return api.Model{Dim: 1, Classes: 1, Bias: [3]int{3}, Trees: []api.Tree{stump(0, 0, 5, 10, 20)}}
}

// wide has four features: of each some thresholds of its own; of the last one none.
func wide() api.Model {
	return api.Model{Dim: 4, Classes: 2, Trees: []api.Tree{steps(0, 0, 3, 7), steps(1, 1, -20, -10, 0), steps(0, 2, 100), steps(1, 0, 3, 5)}}
}

// mono asks of pairs of the feature, with the first points in the region.
func mono(feature int, region api.Box) api.Query {
	return api.Query{Kind: api.QMono, Feature: feature, Region: region}
}

func checkCuts(t *testing.T, m api.Model, q api.Query, b api.Box, place int, want ...int) {
	t.Helper()
	if got := Cuts(m, q, b, place); !slices.Equal(got, want) {
		t.Errorf("Cuts(%v, %+v, %v, %d) = %v, not %v", m, q, b, place, got, want)
	}
}

// checkCells asks for the same cells by Count and by Cells, with room for them, and with less.
func checkCells(t *testing.T, m api.Model, q api.Query, b api.Box, want ...api.Box) {
	t.Helper()
	for _, most := range []int{len(want), len(want) + 1, plenty, greatest} {
		if n, ok := Count(m, q, b, most); n != len(want) || !ok {
			t.Errorf("Count(%v, %+v, %v, %d) = %d, %v, not %d", m, q, b, most, n, ok, len(want))
		}
		if got, ok := Cells(m, q, b, most); !slices.Equal(got, want) || !ok {
			t.Errorf("Cells(%v, %+v, %v, %d) = %v, %v, not %v", m, q, b, most, got, ok, want)
		}
	}
	for _, most := range []int{len(want) - 1, 0, -1, -len(want), low32, least, least + 1} {
		if n, ok := Count(m, q, b, most); n != 0 || ok {
			t.Errorf("Count(%v, %+v, %v, %d) = %d, %v", m, q, b, most, n, ok)
		}
		if got, ok := Cells(m, q, b, most); len(got) != 0 || ok {
			t.Errorf("Cells(%v, %+v, %v, %d) = %v, %v", m, q, b, most, got, ok)
		}
	}
}

// checkHolds asks with as much room as there are cells, and with more, and with less.
func checkHolds(t *testing.T, m api.Model, q api.Query, cells int, want bool) {
	t.Helper()
	if !query.Right(m, q) {
		t.Fatalf("%+v should be right for %v", q, m)
	}
	for _, most := range []int{cells, cells + 1, greatest} {
		if is, ok := Holds(m, q, most); is != want || !ok {
			t.Errorf("Holds(%v, %+v, %d) = %v, %v, not %v", m, q, most, is, ok, want)
		}
	}
	for _, most := range []int{cells - 1, 0, -1, -cells, least} {
		if is, ok := Holds(m, q, most); is || ok {
			t.Errorf("Holds(%v, %+v, %d) = %v, %v", m, q, most, is, ok)
		}
	}
}

func TestRunsOfTheChapter(t *testing.T) {
	q := mono(0, of(0, 9))
	checkCuts(t, run(), q, query.Start(q), 0, 5)
	if n, ok := Count(run(), q, query.Start(q), 4); n != 4 || !ok {
		t.Errorf("Count = %d, %v", n, ok)
	}
	checkHolds(t, run(), q, 4, true)
	q.Falls = true
	checkHolds(t, run(), q, 4, false)
}

func TestCutsOfEachPlace(t *testing.T) {
	all := of(-50, 200, -50, 200, -50, 200, -50, 200, -50, 200)
	for _, kind := range kinds {
		q := api.Query{Kind: kind}
		checkCuts(t, wide(), q, all, 0, 3, 5, 7)
		checkCuts(t, wide(), q, all, 1, -20, -10, 0)
		checkCuts(t, wide(), q, all, 2, 100)
		checkCuts(t, wide(), q, all, 3)
		for _, place := range noPlaces {
			checkCuts(t, wide(), q, all, place)
		}
	}
}

func TestCutsOfTwin(t *testing.T) {
	all := of(-50, 200, -50, 200, -50, 200, -50, 200, -50, 200)
	for feature, want := range [][]int{{3, 5, 7}, {-20, -10, 0}, {100}, nil} {
		for _, falls := range []bool{false, true} {
			q := mono(feature, of(1, 1))
			q.Falls = falls
			checkCuts(t, wide(), q, all, api.Twin, want...)
		}
	}
	for _, kind := range []int{api.QRange, api.QBest} {
		checkCuts(t, wide(), api.Query{Kind: kind}, all, api.Twin)
	}
}

// The span at Twin has a say at Twin alone, that of the Feature nowhere else.
func TestCutsOfTwinAreOfItsOwnSpan(t *testing.T) {
	q := mono(1, of(0, 0))
	checkCuts(t, wide(), q, of(3, 4, -20, 0, 0, 0, 0, 0, 5, 9), api.Twin)
	checkCuts(t, wide(), q, of(3, 4, 5, 9, 0, 0, 0, 0, -15, 1), api.Twin, -10, 0)
	checkCuts(t, wide(), q, of(3, 4, 5, 9, 0, 0, 0, 0, -15, 1), 1)
	checkCuts(t, wide(), q, of(3, 4, -20, 0, 0, 0, 0, 0, 5, 9), 1, -20, -10)
	checkCuts(t, wide(), q, of(3, 4, -20, 0, 0, 0, 0, 0, 5, 9), 0, 3)
}

// A threshold parts what is from Lo to below Hi: at its Hi nothing is above it.
func TestCutsAtTheEndsOfSpans(t *testing.T) {
	for _, at := range []int{low32, low32 + 1, -7, -1, 0, 1, 5, high32 - 1, high32} {
		for _, c := range []struct {
			lo, hi int
			is     bool
		}{
			{at - 5, at + 5, true}, {at, at + 5, true}, {at, at + 1, true}, {at - 5, at + 1, true}, {at - 1, at + 1, true},
			{at + 1, at + 5, false}, {at - 5, at, false}, {at - 1, at, false}, {at - 5, at - 1, false}, {at + 1, at + 1, false}, {at - 1, at - 1, false}, {at, at, false},
			{least, greatest, true}, {least, at, false}, {least, at + 1, true}, {at, greatest, true}, {at + 1, greatest, false}, {least, least, false}, {greatest, greatest, false}, {least, at - 1, false},
			{low32, high32, at < high32}, {at + 1, at, false}, {at + 5, at, false}, {at, at - 1, false}, {at + 1, at - 1, false}, {greatest, least, false}, {greatest, at, false}, {at, least, false},
		} {
			var want []int
			if c.is {
				want = []int{at}
			}
			for feature := range api.MaxDim {
				m := api.Model{Dim: 4, Classes: 1, Trees: []api.Tree{stump(0, feature, at, 1, 2)}}
				for _, place := range places {
					b := of(9, 8, 7, 6, 5, 4, 3, 2, 1, 0)
					b[place] = api.Span{Lo: c.lo, Hi: c.hi}
					for _, q := range []api.Query{{Kind: api.QRange}, mono(feature, api.Box{})} {
						if place == feature || place == api.Twin && q.Kind == api.QMono {
							checkCuts(t, m, q, b, place, want...)
						} else {
							checkCuts(t, m, q, b, place)
						}
					}
				}
			}
		}
	}
}

func TestCutsThatSeveralNodesShare(t *testing.T) {
	m := api.Model{Dim: 2, Classes: 3, Trees: []api.Tree{
		stump(0, 0, 5, 1, 2), stump(1, 0, 5, 3, 4), stump(2, 1, 5, 1, 2), stump(2, 0, -5, 0, 0),
		{Nodes: []uint64{fork(1, 8, 1, 2), fork(0, 5, 3, 4), fork(0, 5, 5, 6), leaf(0), leaf(5), leaf(8), leaf(-9)}},
	}}
	q := mono(0, of(0, 9, 0, 9))
	checkCuts(t, m, q, of(-9, 9, -9, 9, 0, 0, 0, 0, -9, 9), 0, -5, 5)
	checkCuts(t, m, q, of(-9, 9, -9, 9, 0, 0, 0, 0, 0, 9), api.Twin, 5)
	checkCuts(t, m, q, of(-9, 9, -9, 9), 1, 5, 8)
	checkCuts(t, m, q, of(-9, 9, -9, 9), 2)
}

// Nothing that a query says but its Kind and Feature has a say, nor its region.
func TestCutsHangOnTheBoxAlone(t *testing.T) {
	for _, b := range []api.Box{of(0, 9, -15, 5), of(4, 6, -12, 0), of(3, 8, -30, 1), of(-100, 300, -9, 9), of(50, 60, 50, 60)} {
		var want []int
		for _, at := range []int{3, 5, 7} {
			if b[0].Lo <= at && at < b[0].Hi {
				want = append(want, at)
			}
		}
		for _, region := range []api.Box{b, of(0, 9, -15, 5), of(4, 4, -12, -12), of(-100, 300, -100, 300)} {
			for _, q := range []api.Query{
				{Kind: api.QRange, Region: region}, {Kind: api.QRange, Class: 1, Lo: -3, Hi: 9, Budget: 7, Region: region},
				{Kind: api.QBest, Class: 1, Region: region}, mono(0, region), mono(2, region),
			} {
				checkCuts(t, wide(), q, b, 0, want...)
			}
		}
	}
}

func TestCellsInOrder(t *testing.T) {
	m := wide()
	q := api.Query{Kind: api.QRange, Class: 1}
	checkCells(t, m, q, of(0, 9, 0, 9, 0, 9, 0, 9), of(0, 3, 0, 0, 0, 9, 0, 9), of(0, 3, 1, 9, 0, 9, 0, 9), of(4, 5, 0, 0, 0, 9, 0, 9), of(4, 5, 1, 9, 0, 9, 0, 9),
		of(6, 7, 0, 0, 0, 9, 0, 9), of(6, 7, 1, 9, 0, 9, 0, 9), of(8, 9, 0, 0, 0, 9, 0, 9), of(8, 9, 1, 9, 0, 9, 0, 9))
	checkCells(t, m, q, of(5, 6, -15, 1, 100, 101, -3, 3), of(5, 5, -15, -10, 100, 100, -3, 3), of(5, 5, -15, -10, 101, 101, -3, 3), of(5, 5, -9, 0, 100, 100, -3, 3), of(5, 5, -9, 0, 101, 101, -3, 3),
		of(5, 5, 1, 1, 100, 100, -3, 3), of(5, 5, 1, 1, 101, 101, -3, 3), of(6, 6, -15, -10, 100, 100, -3, 3), of(6, 6, -15, -10, 101, 101, -3, 3),
		of(6, 6, -9, 0, 100, 100, -3, 3), of(6, 6, -9, 0, 101, 101, -3, 3), of(6, 6, 1, 1, 100, 100, -3, 3), of(6, 6, 1, 1, 101, 101, -3, 3))
	pairs := mono(2, of(1, 3, 4, 4, 99, 101))
	checkCells(t, m, pairs, query.Start(pairs), of(1, 3, 4, 4, 99, 100, 0, 0, 99, 100), of(1, 3, 4, 4, 99, 100, 0, 0, 101, 101),
		of(1, 3, 4, 4, 101, 101, 0, 0, 99, 100), of(1, 3, 4, 4, 101, 101, 0, 0, 101, 101))
	// A part of the region, with another span of the second's.
	checkCells(t, m, pairs, of(3, 4, 0, 0, 99, 99, 0, 0, 100, 110), of(3, 3, 0, 0, 99, 99, 0, 0, 100, 100), of(3, 3, 0, 0, 99, 99, 0, 0, 101, 110),
		of(4, 4, 0, 0, 99, 99, 0, 0, 100, 100), of(4, 4, 0, 0, 99, 99, 0, 0, 101, 110))
}

func TestCellsOfBoxesWithoutCuts(t *testing.T) {
	for _, b := range []api.Box{{}, of(4, 5, 1, 9, 0, 0, least, greatest), of(8, 8, -5, -5), of(greatest, greatest, least, least, least, 100, 7, 7), of(9, 8, 7, 6, 5, 4, 3, 2, 1, 0), of(greatest, least), of(1, 0, 1, 0, 1, 0, 1, 0, 1, 0)} {
		for _, q := range []api.Query{{Kind: api.QRange}, {Kind: api.QBest}, mono(1, of(4, 5)), mono(3, of(-5, 5))} {
			checkCells(t, wide(), q, b, b)
		}
	}
	// What isn't asked of has no cuts either, wherever its span lies.
	b := of(0, 0, 0, 0, 0, 0, 0, 0, -500, 500)
	checkCells(t, wide(), api.Query{Kind: api.QRange}, b, b)
	checkCells(t, wide(), api.Query{Kind: api.QBest}, b, b)
	checkCells(t, wide(), mono(3, api.Box{}), b, b)
	checkCells(t, api.Model{Dim: 2, Classes: 2}, mono(0, api.Box{}), of(-9, 9, -9, 9, 0, 0, 0, 0, -9, 9), of(-9, 9, -9, 9, 0, 0, 0, 0, -9, 9))
}

// What is empty at one place is cut at the others all the same.
func TestCellsOfEmptyBoxes(t *testing.T) {
	q := api.Query{Kind: api.QRange}
	checkCells(t, wide(), q, of(2, 5, 9, -9), of(2, 3, 9, -9), of(4, 5, 9, -9))
	checkCells(t, wide(), q, of(5, 2, -20, -19), of(5, 2, -20, -20), of(5, 2, -19, -19))
	checkCells(t, wide(), q, of(greatest, least, 0, 1, 0, -1, 1, 0, 8, 3), of(greatest, least, 0, 0, 0, -1, 1, 0, 8, 3), of(greatest, least, 1, 1, 0, -1, 1, 0, 8, 3))
}

func TestCellsAtTheEdgesOfInts(t *testing.T) {
	m := api.Model{Dim: 1, Classes: 1, Trees: []api.Tree{steps(0, 0, low32, 0, high32)}}
	checkCells(t, m, api.Query{Kind: api.QRange}, of(least, greatest), of(least, low32), of(low32+1, 0), of(1, high32), of(high32+1, greatest))
	checkCells(t, m, api.Query{Kind: api.QRange}, of(low32, high32), of(low32, low32), of(low32+1, 0), of(1, high32))
	checkCells(t, m, api.Query{Kind: api.QRange}, of(low32+1, high32+1), of(low32+1, 0), of(1, high32), of(high32+1, high32+1))
	checkCells(t, m, mono(0, api.Box{}), of(5, 5, 0, 0, 0, 0, 0, 0, least, greatest), of(5, 5, 0, 0, 0, 0, 0, 0, least, low32), of(5, 5, 0, 0, 0, 0, 0, 0, low32+1, 0),
		of(5, 5, 0, 0, 0, 0, 0, 0, 1, high32), of(5, 5, 0, 0, 0, 0, 0, 0, high32+1, greatest))
}

// crowded has as many cuts as nodes allow: 15 of each tree.
func crowded() api.Model {
	m := api.Model{Dim: 4, Classes: 1}
	for tree := range api.MaxTrees {
		var ats []int
		for i := range 15 {
			ats = append(ats, 2*i+tree/4)
		}
		m.Trees = append(m.Trees, steps(0, tree%4, ats...))
	}
	return m
}

func TestCountOfTheGreatestModels(t *testing.T) {
	b := of(0, 99, 0, 99, 0, 99, 0, 99, 0, 99)
	for _, c := range []struct {
		q     api.Query
		count int
	}{{api.Query{Kind: api.QRange}, 31 * 31 * 31 * 31}, {mono(2, api.Box{}), 31 * 31 * 31 * 31 * 31}} {
		for _, most := range []int{c.count, c.count + 1, greatest} {
			if n, ok := Count(crowded(), c.q, b, most); n != c.count || !ok {
				t.Errorf("Count(%+v, %d) = %d, %v", c.q, most, n, ok)
			}
		}
		for _, most := range []int{c.count - 1, 31, 1, 0, -1, least} {
			if n, ok := Count(crowded(), c.q, b, most); n != 0 || ok {
				t.Errorf("Count(%+v, %d) = %d, %v", c.q, most, n, ok)
			}
			if l, ok := Cells(crowded(), c.q, b, most); len(l) != 0 || ok {
				t.Errorf("Cells(%+v, %d) = %d of them, %v", c.q, most, len(l), ok)
			}
		}
	}
	l, ok := Cells(crowded(), api.Query{Kind: api.QRange}, of(5, 6, 7, 9, 11, 14, 0, 30), plenty)
	if len(l) != 2*3*4*31 || !ok {
		t.Errorf("%d cells, %v", len(l), ok)
	}
	inOrder(t, l)
}

// inOrder asks that the cells' Los rise, the first place's slowest.
func inOrder(t *testing.T, l []api.Box) {
	t.Helper()
	for i := 1; i < len(l); i++ {
		if !slices.ContainsFunc(places, func(place int) bool {
			return slices.Equal(l[i-1][:place], l[i][:place]) && l[i-1][place].Hi < l[i][place].Lo
		}) {
			t.Errorf("%v ahead of %v", l[i-1], l[i])
		}
	}
}

func TestHoldsOfARange(t *testing.T) {
	m := wide()
	// Class 0's sum from 0 to 3: two steps of the first feature, one of the third.
	region := of(0, 9, -30, 30, 0, 200, -3, 3)
	for lo := -1; lo <= 4; lo++ {
		for hi := lo; hi <= 4; hi++ {
			q := api.Query{Kind: api.QRange, Lo: lo, Hi: hi, Region: region}
			checkHolds(t, m, q, 4*4*2, lo <= 0 && hi >= 3)
			q.Region[0].Lo, q.Region[2].Hi = 4, 100
			checkHolds(t, m, q, 3*4, lo <= 1 && hi >= 2)
		}
	}
	for _, c := range []struct {
		class, lo, hi int
		want          bool
	}{{0, least, greatest, true}, {0, least, least, false}, {0, greatest, greatest, false}, {1, 0, 5, true}, {1, 1, 5, false}, {1, 0, 4, false}, {0, 0, greatest, true}, {0, least, 3, true}} {
		checkHolds(t, m, api.Query{Kind: api.QRange, Class: c.class, Lo: c.lo, Hi: c.hi, Region: region}, 32, c.want)
	}
}

func TestHoldsOfBest(t *testing.T) {
	m := api.Model{Dim: 2, Classes: 3, Bias: [3]int{1, 0, -1}, Trees: []api.Tree{stump(1, 0, 4, 0, 5), stump(2, 1, 6, 0, 9)}}
	for _, c := range []struct {
		class int
		b     api.Box
		cells int
		want  bool
	}{
		{0, of(0, 4, 0, 6), 1, true}, {0, of(0, 5, 0, 6), 2, false}, {0, of(0, 4, 0, 7), 2, false}, {0, of(0, 5, 0, 7), 4, false},
		{1, of(5, 9, 0, 6), 1, true}, {1, of(4, 9, 0, 6), 2, false}, {1, of(5, 9, 0, 7), 2, false}, {1, of(0, 4, 0, 0), 1, false},
		{2, of(0, 9, 7, 9), 2, true}, {2, of(0, 9, 6, 9), 4, false}, {2, of(0, 4, 7, 7), 1, true}, {2, of(0, 0, 6, 6), 1, false},
	} {
		checkHolds(t, m, api.Query{Kind: api.QBest, Class: c.class, Region: c.b}, c.cells, c.want)
	}
	// A tie fails.
	m.Bias[1] = 1
	checkHolds(t, m, api.Query{Kind: api.QBest, Region: of(0, 4, 0, 6)}, 1, false)
}

func TestHoldsOfPairs(t *testing.T) {
	// It rises at 0, falls at 5.
	m := api.Model{Dim: 2, Classes: 2, Trees: []api.Tree{stump(1, 1, 0, 10, 20), stump(1, 1, 5, 0, -5), stump(0, 0, 2, 0, 1)}}
	for _, c := range []struct {
		lo, hi, cells int
		rises, falls  bool
	}{
		{-9, 0, 1, true, true}, {-9, 1, 4, true, false}, {-9, 5, 4, true, false}, {-9, 6, 9, false, false}, {0, 1, 4, true, false}, {1, 5, 1, true, true},
		{1, 6, 4, false, true}, {5, 6, 4, false, true}, {6, 99, 1, true, true}, {5, 99, 4, false, true}, {0, 6, 9, false, false}, {0, 0, 1, true, true}, {5, 5, 1, true, true}, {low32, high32, 9, false, false},
	} {
		q := api.Query{Kind: api.QMono, Class: 1, Feature: 1, Region: of(1, 1, c.lo, c.hi)}
		checkHolds(t, m, q, c.cells, c.rises)
		q.Falls = true
		checkHolds(t, m, q, c.cells, c.falls)
		// The other feature and the other class have nothing to do with each other's.
		checkHolds(t, m, api.Query{Kind: api.QMono, Feature: 1, Region: of(1, 1, c.lo, c.hi)}, c.cells, true)
		q.Feature, q.Region[0] = 0, api.Span{Lo: 2, Hi: 3}
		checkHolds(t, m, q, 4*len(Cuts(m, q, q.Region, 1))+4, true)
	}
}

// The one pair that breaks these is the least first with the greatest second: the outmost numbers of the outmost cells.
func TestHoldsOfPairsThatAreBrokenAtAnEdge(t *testing.T) {
	for _, c := range [][2]int{{0, 9}, {-5, 5}, {3, 4}, {3, 5}, {low32, high32}, {low32, low32 + 1}, {high32 - 1, high32}} {
		lo, hi := c[0], c[1]
		up := api.Model{Dim: 1, Classes: 1, Trees: []api.Tree{stump(0, 0, lo, 0, 4), stump(0, 0, hi-1, 0, -5)}}
		down := api.Model{Dim: 1, Classes: 1, Trees: []api.Tree{stump(0, 0, lo, 0, -4), stump(0, 0, hi-1, 0, 5)}}
		q, falls := mono(0, of(lo, hi)), mono(0, of(lo, hi))
		falls.Falls = true
		// The cells between the outmost ones: none, if there is no number.
		side := 3
		if hi == lo+1 {
			side = 2
		}
		if checkHolds(t, up, q, side*side, false); side == 3 {
			checkHolds(t, up, mono(0, of(lo, hi-1)), 4, true)
			checkHolds(t, up, mono(0, of(lo+1, hi)), 4, false)
		}
		checkHolds(t, down, falls, side*side, false)
		brokenPairs(t, up, q, lo, hi)
		brokenPairs(t, down, falls, lo, hi)
	}
	// A pair whose numbers are alike, or the wrong way round, breaks nothing: one number has no pair.
	for _, n := range []int{low32, -1, 0, 5, 6, high32} {
		for _, falls := range []bool{false, true} {
			q := mono(0, of(n, n))
			q.Falls = falls
			checkHolds(t, run(), q, 1, true)
		}
	}
}

// brokenPairs asks that the pair of the region's ends breaks the query.
func brokenPairs(t *testing.T, m api.Model, q api.Query, lo, hi int) {
	t.Helper()
	if !query.Breaks(m, q, api.Point{lo}, hi) || query.Breaks(m, q, api.Point{hi}, lo) {
		t.Errorf("%+v: (%d), %d should break it, and not the other way round", q, lo, hi)
	}
}

// A span between two thresholds: within one cell nothing is broken, whatever it is asked of.
func TestHoldsHangsOnTheCellsOfTheRegionAlone(t *testing.T) {
	m := api.Model{Dim: 1, Classes: 1, Trees: []api.Tree{stump(0, 0, 3, 0, 1), stump(0, 0, 6, 0, -9)}}
	checkHolds(t, m, mono(0, of(4, 6)), 1, true)
	checkHolds(t, m, mono(0, of(0, 6)), 4, true)
	checkHolds(t, m, mono(0, of(0, 7)), 9, false)
	checkHolds(t, m, api.Query{Kind: api.QRange, Lo: 1, Hi: 1, Region: of(4, 6)}, 1, true)
	checkHolds(t, m, api.Query{Kind: api.QRange, Lo: 1, Hi: 1, Region: of(3, 6)}, 2, false)
	checkHolds(t, m, api.Query{Kind: api.QRange, Lo: 1, Hi: 1, Region: of(4, 7)}, 2, false)
}

// dice tell numbers by a rule of their own, so that each run of the tests makes the same models.
type dice struct{ state uint64 }

func (d *dice) below(n int) int {
	d.state = d.state*6364136223846793005 + 1442695040888963407
	return int(d.state>>33) % n
}

// grown is a model of small numbers, so that many of its thresholds and sums are the same.
func grown(d *dice) api.Model {
	m := api.Model{Dim: 1 + d.below(api.MaxDim), Classes: 1 + d.below(3)}
	for class := range m.Classes {
		m.Bias[class] = d.below(3) - 1
	}
	for range 1 + d.below(7) {
		class, f, g := d.below(m.Classes), d.below(m.Dim), d.below(m.Dim)
		m.Trees = append(m.Trees, api.Tree{Class: class, Nodes: []uint64{
			fork(f, d.below(5)-2, 1, 2), leaf(d.below(4) - 1), fork(g, d.below(5)-2, 4, 3), leaf(d.below(4) - 1), leaf(d.below(4) - 1),
		}})
	}
	return m
}

// asked is a query that is right for m.
func asked(d *dice, m api.Model) api.Query {
	q := api.Query{Kind: kinds[d.below(3)], Class: d.below(m.Classes)}
	if q.Kind == api.QBest && m.Classes == 1 {
		q.Kind = api.QRange
	}
	switch q.Kind {
	case api.QRange:
		q.Lo = d.below(4) - 5
		q.Hi = q.Lo + d.below(9)
	case api.QMono:
		q.Feature, q.Falls = d.below(m.Dim), d.below(2) == 1
	}
	for place := range m.Dim {
		q.Region[place].Lo = d.below(6) - 4
		q.Region[place].Hi = q.Region[place].Lo + d.below(5)
	}
	return q
}

// thresholds goes through all nodes; each threshold may come more than once, in any order.
func thresholds(m api.Model, feature int) []int {
	var ats []int
	for _, t := range m.Trees {
		for _, w := range t.Nodes {
			if n, ok := node.Unpack(w); ok && !n.Leaf && n.Feature == feature {
				ats = append(ats, n.At)
			}
		}
	}
	return ats
}

// sides tells of a number which of the thresholds it is above of.
func sides(ats []int, n int) string {
	l := make([]byte, len(ats))
	for i, at := range ats {
		l[i] = '-'
		if n > at {
			l[i] = '+'
		}
	}
	return string(l)
}

// runsOf goes from number to number and begins a new span where a threshold parts two of them.
func runsOf(s api.Span, ats []int) []api.Span {
	l := []api.Span{{Lo: s.Lo, Hi: s.Lo}}
	for n := s.Lo + 1; n <= s.Hi; n++ {
		if last := &l[len(l)-1]; sides(ats, last.Hi) == sides(ats, n) {
			last.Hi = n
		} else {
			l = append(l, api.Span{Lo: n, Hi: n})
		}
	}
	return l
}

// cellsOf makes the cells by going through a small box that isn't empty number by number.
func cellsOf(m api.Model, q api.Query, b api.Box) []api.Box {
	l := []api.Box{{}}
	for _, place := range places {
		var ats []int
		if place < api.Twin {
			ats = thresholds(m, place)
		} else if q.Kind == api.QMono {
			ats = thresholds(m, q.Feature)
		}
		var next []api.Box
		for _, cell := range l {
			for _, s := range runsOf(b[place], ats) {
				cell[place] = s
				next = append(next, cell)
			}
		}
		l = next
	}
	return l
}

func TestCellsOfManyModels(t *testing.T) {
	d := &dice{12}
	seen := map[int]int{}
	for range 1500 {
		m := grown(d)
		q := asked(d, m)
		start := query.Start(q)
		l := cellsOf(m, q, start)
		checkCells(t, m, q, start, l...)
		seen[len(l)]++
		// A part of the region, and a box that has nothing to do with it.
		part, other := start, start
		for place := range part {
			part[place].Lo += d.below(part[place].Hi - part[place].Lo + 1)
			other[place] = api.Span{Lo: d.below(9) - 5, Hi: 4 + d.below(3)}
		}
		if !box.Within(part, start) {
			t.Fatal(part, start)
		}
		checkCells(t, m, q, part, cellsOf(m, q, part)...)
		checkCells(t, m, q, other, cellsOf(m, q, other)...)
	}
	if len(seen) < 15 || seen[1] > 750 {
		t.Error("too much of the same:", seen)
	}
}

// pointsOf are all points of a small box, each with the second's number.
func pointsOf(b api.Box) [][api.MaxDim + 1]int {
	l := [][api.MaxDim + 1]int{{}}
	for place, s := range b {
		var next [][api.MaxDim + 1]int
		for _, p := range l {
			for n := s.Lo; n <= s.Hi; n++ {
				p[place] = n
				next = append(next, p)
			}
		}
		l = next
	}
	return l
}

// Each point is in one cell, no cell has none, and all of a cell come to the same sums.
func TestCellsPartTheBox(t *testing.T) {
	d := &dice{21}
	for range 300 {
		m := grown(d)
		q := asked(d, m)
		start := query.Start(q)
		cells, _ := Cells(m, q, start, plenty)
		inOrder(t, cells)
		counts := make([]int, len(cells))
		for _, p := range pointsOf(start) {
			point, home := api.Point(p[:api.MaxDim]), -1
			for i, cell := range cells {
				if box.Has(cell, point, p[api.Twin]) {
					if home >= 0 {
						t.Fatalf("%v is in %v and in %v", p, cells[home], cell)
					}
					home = i
				}
			}
			if home < 0 {
				t.Fatalf("%v is in no cell of %v", p, cells)
			}
			counts[home]++
			alike(t, m, q, cells[home], p)
		}
		for i, n := range counts {
			if n == 0 || box.Empty(cells[i]) || !box.Within(cells[i], start) {
				t.Errorf("%v is empty, or not of %v", cells[i], start)
			}
		}
	}
}

// alike asks that a pair has the sums of its cell's Los.
func alike(t *testing.T, m api.Model, q api.Query, cell api.Box, p [api.MaxDim + 1]int) {
	t.Helper()
	first, low := api.Point(p[:api.MaxDim]), box.Low(cell)
	for class := range m.Classes {
		if model.Eval(m, class, first) != model.Eval(m, class, low) {
			t.Errorf("%v isn't like its cell %v", p, cell)
		}
		if model.Eval(m, class, query.Second(q, first, p[api.Twin])) != model.Eval(m, class, query.Second(q, low, cell[api.Twin].Lo)) {
			t.Errorf("%v's second isn't like its cell's %v", p, cell)
		}
	}
}

// P12.4: all points of the region are asked one by one.
func TestHoldsJustIfNothingBreaksTheQuery(t *testing.T) {
	d := &dice{124}
	held, failed := map[int]int{}, map[int]int{}
	for range 1500 {
		m := grown(d)
		q := asked(d, m)
		start := query.Start(q)
		want := !slices.ContainsFunc(pointsOf(start), func(p [api.MaxDim + 1]int) bool {
			return query.Breaks(m, q, api.Point(p[:api.MaxDim]), p[api.Twin])
		})
		checkHolds(t, m, q, len(cellsOf(m, q, start)), want)
		if want {
			held[q.Kind]++
		} else {
			failed[q.Kind]++
		}
	}
	for _, kind := range kinds {
		if held[kind] < 50 || failed[kind] < 50 {
			t.Errorf("kind %d: %d held, %d failed", kind, held[kind], failed[kind])
		}
	}
}

// Regions as wide as they can be: their cells are few all the same.
func TestHoldsOfTheWidestRegions(t *testing.T) {
	m := wide()
	all := of(low32, high32, low32, high32, low32, high32, low32, high32)
	checkHolds(t, m, api.Query{Kind: api.QRange, Hi: 3, Region: all}, 32, true)
	checkHolds(t, m, api.Query{Kind: api.QRange, Hi: 2, Region: all}, 32, false)
	for feature, cuts := range []int{3, 3, 1, 0} {
		checkHolds(t, m, mono(feature, all), 32*(cuts+1), true)
		falls := mono(feature, all)
		falls.Falls = true
		// Class 0 has no step of the second feature, and nothing has one of the last.
		checkHolds(t, m, falls, 32*(cuts+1), feature == 1 || feature == 3)
	}
}

// wrongModels are each of a right model with one thing that doesn't belong there.
func wrongModels() []api.Model {
	list := []api.Model{{}}
	for _, change := range []func(m *api.Model){
		func(m *api.Model) { m.Dim = 0 }, func(m *api.Model) { m.Dim = 5 }, func(m *api.Model) { m.Dim = least }, func(m *api.Model) { m.Dim = greatest },
		func(m *api.Model) { m.Classes = 1 }, func(m *api.Model) { m.Classes = greatest }, func(m *api.Model) { m.Classes = -1 }, func(m *api.Model) { m.Bias[0] = greatest },
		func(m *api.Model) { m.Trees = slices.Repeat(m.Trees, 3) }, func(m *api.Model) { m.Trees[1].Class = -1 }, func(m *api.Model) { m.Trees[0].Nodes = nil },
		func(m *api.Model) { m.Trees[0].Nodes = []uint64{math.MaxUint64} }, func(m *api.Model) { m.Trees[2].Nodes[0] = fork(0, 1, 0, 0) },
		func(m *api.Model) { m.Trees[2].Nodes = slices.Repeat(m.Trees[2].Nodes, 99) },
	} {
		m := wide()
		change(&m)
		list = append(list, m)
	}
	return list
}

// wrongQueries are right for no model, or not for wide.
func wrongQueries() []api.Query {
	list := []api.Query{{}}
	numbers := []int{least, least + 1, -1, 0, 1, 2, 3, 4, 5, 15, 16, 1 << 32, greatest}
	for _, n := range numbers {
		for _, region := range []api.Box{{}, of(0, 9, -30, 30, 0, 200, -3, 3, 5, 9), of(9, 0, 9, 0), of(least, greatest, least, greatest, least, greatest, least, greatest, least, greatest), of(greatest, least, 0, 9, greatest, least)} {
			list = append(list, api.Query{Kind: n, Class: n, Feature: n, Lo: 5, Hi: -5, Budget: n, Region: region}, api.Query{Kind: n, Feature: 2, Region: region})
			for _, kind := range kinds {
				list = append(list, api.Query{Kind: kind, Feature: n, Falls: true, Budget: -1, Region: region}, api.Query{Kind: kind, Class: n, Lo: n, Hi: -n, Region: region})
			}
		}
	}
	return list
}

// Nothing is promised of these but that all ends.
func TestWrongQueriesAndModelsEnd(t *testing.T) {
	for i, m := range append(wrongModels(), wide(), run()) {
		if wrong := i < len(wrongModels()); model.Right(m) == wrong {
			t.Fatalf("model %d is right: %v", i, !wrong)
		}
		for _, q := range wrongQueries() {
			for _, b := range []api.Box{q.Region, query.Start(q), of(9, 0, 0, 9)} {
				for _, place := range slices.Concat(places, noPlaces) {
					Cuts(m, q, b, place)
				}
				for _, most := range []int{least, 0, 1, greatest} {
					Count(m, q, b, most)
					Cells(m, q, b, most)
					Holds(m, q, most)
				}
			}
		}
	}
}

// What comes in stays as it was, the room behind its lists too.
func TestWhatIsHandedInStays(t *testing.T) {
	d := &dice{2}
	for range 200 {
		m := grown(d)
		for i, tree := range m.Trees {
			m.Trees[i].Nodes = slices.Concat(tree.Nodes, []uint64{7, fork(0, 1, 0, 0), 9})[:len(tree.Nodes)]
		}
		m.Trees = slices.Concat(m.Trees, []api.Tree{stump(0, 0, 99, 1, 2), {Class: -1}})[:len(m.Trees)]
		q := asked(d, m)
		start := query.Start(q)
		before, asking, region := spread(m), q, start
		for _, place := range slices.Concat(places, noPlaces) {
			Cuts(m, q, start, place)
		}
		for _, most := range []int{-1, 0, 1, plenty} {
			Count(m, q, start, most)
			Cells(m, q, start, most)
			Holds(m, q, most)
		}
		if !reflect.DeepEqual(spread(m), before) || q != asking || start != region {
			t.Errorf("%v, %+v, %v were changed", m, q, start)
		}
		checkCells(t, m, q, start, cellsOf(m, q, start)...)
	}
}

// spread is a copy of a model, with the room behind its lists.
func spread(m api.Model) api.Model {
	m.Trees = slices.Clone(m.Trees[:cap(m.Trees)])
	for i, tree := range m.Trees {
		m.Trees[i].Nodes = slices.Clone(tree.Nodes[:cap(tree.Nodes)])
	}
	return m
}

// Answers share nothing with what is answered later, the room behind them neither.
func TestAnswersAreNewMemory(t *testing.T) {
	m, q := wide(), mono(0, of(0, 9, -30, 30, 0, 200))
	start := query.Start(q)
	cuts := Cuts(m, q, start, 0)
	cells, _ := Cells(m, q, start, plenty)
	wantCuts, wantCells := slices.Clone(cuts), slices.Clone(cells)
	cuts, cells = cuts[:cap(cuts)], cells[:cap(cells)]
	for i := range cuts {
		cuts[i] = -1
	}
	for i := range cells {
		cells[i] = of(-1, -1)
	}
	checkCuts(t, m, q, start, 0, wantCuts...)
	checkCells(t, m, q, start, wantCells...)
}
