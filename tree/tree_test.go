package tree

import (
	"math"
	"slices"
	"testing"

	"copse/api"
	"copse/node"
)

const (
	least    = math.MinInt64
	greatest = math.MaxInt64
)

func leaf(value int) uint64 { return node.Pack(api.Node{Leaf: true, Value: value}) }

func fork(feature, at, left, right int) uint64 {
	return node.Pack(api.Node{Feature: feature, At: at, Left: left, Right: right})
}

// wrongWords can't be unpacked: nothing, bits without a meaning, a feature or a side out of bounds.
func wrongWords() []uint64 {
	return []uint64{0, 1, 7, 0xFFFFFFFF, ^uint64(0), 1 << 62, 0x8000000100000000, 0x8001020000000005,
		0x0002010400000005, 0x0002000000000005, 0x0000010000000005, 0x001F010000000005, 0x00021F0000000005, 0x0102010000000005, 0x0002011000000005}
}

// run is the chapter's tree.
func run() []uint64 { return []uint64{fork(0, 5, 1, 2), leaf(10), leaf(20)} }

// mixed has every feature, sides that stand crosswise, and ways of 2, 3 and 4 nodes.
func mixed() []uint64 {
	return []uint64{fork(2, 10, 3, 1), fork(0, -4, 2, 5), fork(3, 7, 6, 4), leaf(-1), leaf(-2), fork(1, 0, 8, 7), leaf(-3), leaf(-4), leaf(-5)}
}

// full is the tree whose ways all have so many nodes, level by level.
func full(depth int) []uint64 {
	count := 1<<depth - 1
	var l []uint64
	for i := range count {
		if 2*i+2 < count {
			l = append(l, fork(i%api.MaxDim, 3*i-40, 2*i+1, 2*i+2))
		} else {
			l = append(l, leaf(100+i))
		}
	}
	return l
}

// chain has a leaf beside each fork, on the side that leafLeft tells: the longest way that so many forks make.
func chain(forks int, leafLeft func(i int) bool) []uint64 {
	var l []uint64
	for i := range forks {
		if leafLeft(i) {
			l = append(l, fork(i%api.MaxDim, 2*i, 2*i+1, 2*i+2), leaf(i))
		} else {
			l = append(l, fork(i%api.MaxDim, 2*i, 2*i+2, 2*i+1), leaf(i))
		}
	}
	return append(l, leaf(forks))
}

func always(int) bool { return true }

func never(int) bool { return false }

func everyOther(i int) bool { return i%2 == 0 }

// dice tell numbers by a rule of their own, so that each run of the tests makes the same trees.
type dice struct{ state uint64 }

func (d *dice) below(n int) int {
	d.state = d.state*6364136223846793005 + 1442695040888963407
	return int(d.state>>33) % n
}

// grown is a right tree of so many forks: its nodes are placed in some order in which each stands behind the one that names it.
func grown(d *dice, forks int) []uint64 {
	type slot struct{ parent, side int }
	open := []slot{{-1, 0}}
	var nodes []api.Node
	for len(open) > 0 {
		i := d.below(len(open))
		s := open[i]
		open = slices.Delete(open, i, i+1)
		at := len(nodes)
		if s.parent >= 0 && s.side == 0 {
			nodes[s.parent].Left = at
		} else if s.parent >= 0 {
			nodes[s.parent].Right = at
		}
		if forks > 0 && (len(open) == 0 || d.below(2) == 0) {
			forks--
			nodes = append(nodes, api.Node{Feature: d.below(api.MaxDim), At: d.below(9) - 4})
			open = append(open, slot{at, 0}, slot{at, 1})
		} else {
			nodes = append(nodes, api.Node{Leaf: true, Value: d.below(1000) - 500})
		}
	}
	return packed(nodes)
}

func packed(nodes []api.Node) []uint64 {
	var l []uint64
	for _, n := range nodes {
		l = append(l, node.Pack(n))
	}
	return l
}

func someTrees() [][]uint64 {
	list := [][]uint64{{leaf(0)}, {leaf(-7)}, run(), mixed(), full(2), full(3), full(4), full(5),
		chain(15, always), chain(15, never), chain(15, everyOther), chain(2, never), chain(7, everyOther)}
	d := &dice{7}
	for forks := range 16 {
		for range 12 {
			list = append(list, grown(d, forks))
		}
	}
	return list
}

// isTree asks as the chapter does, one thing after another, with a search for those that name a node.
func isTree(l []uint64, dim int) bool {
	if len(l) == 0 || len(l) > 31 {
		return false
	}
	for at, w := range l {
		n, ok := node.Unpack(w)
		if !ok {
			return false
		}
		if n.Leaf {
			continue
		}
		if n.Feature >= dim || n.Left <= at || n.Right <= at || n.Left >= len(l) || n.Right >= len(l) || n.Left == n.Right {
			return false
		}
	}
	for at := 1; at < len(l); at++ {
		if len(namers(l, at)) != 1 {
			return false
		}
	}
	return true
}

// namers are the places of the forks of l that name the place at.
func namers(l []uint64, at int) []int {
	var list []int
	for i, w := range l {
		if n, ok := node.Unpack(w); ok && !n.Leaf && (n.Left == at || n.Right == at) {
			list = append(list, i)
		}
	}
	return list
}

// wayUp is the nodes from a place of a right tree up to the root.
func wayUp(l []uint64, at int) []int {
	way := []int{at}
	for at != 0 {
		at = namers(l, at)[0]
		way = append(way, at)
	}
	return way
}

// leafPlaces and depthOf are a right tree's, by its words' highest bits and by the ways up from them.
func leafPlaces(l []uint64) []int {
	var list []int
	for i, w := range l {
		if w>>63 == 1 {
			list = append(list, i)
		}
	}
	return list
}

func depthOf(l []uint64) int {
	depth := 0
	for _, at := range leafPlaces(l) {
		depth = max(depth, len(wayUp(l, at)))
	}
	return depth
}

// comesTo tells whether p goes the way from the root to the place at: each fork of it sends p to the next one.
func comesTo(l []uint64, at int, p api.Point) bool {
	way := wayUp(l, at)
	for i := 1; i < len(way); i++ {
		n, _ := node.Unpack(l[way[i]])
		isLeft := n.Left == way[i-1]
		if isLeft && p[n.Feature] > n.At || !isLeft && p[n.Feature] <= n.At {
			return false
		}
	}
	return true
}

func valueAt(l []uint64, at int) int {
	n, _ := node.Unpack(l[at])
	return n.Value
}

// checkRow holds Right, Leaves and Depth of l against the chapter's.
func checkRow(t *testing.T, l []uint64, dim int) {
	t.Helper()
	if got, want := Right(l, dim), isTree(l, dim); got != want {
		t.Errorf("Right(%#x, %d) = %v", l, dim, got)
	}
	var wantLeaves []int
	wantDepth := 0
	if isTree(l, 4) {
		wantLeaves, wantDepth = leafPlaces(l), depthOf(l)
	}
	if got := Leaves(l); !slices.Equal(got, wantLeaves) {
		t.Errorf("Leaves(%#x) = %v, not %v", l, got, wantLeaves)
	}
	if got := Depth(l); got != wantDepth {
		t.Errorf("Depth(%#x) = %d, not %d", l, got, wantDepth)
	}
}

func checkWalk(t *testing.T, l []uint64, p api.Point, at, value int) {
	t.Helper()
	if got := Walk(l, p); got != at {
		t.Errorf("Walk(%#x, %v) = %d, not %d", l, p, got, at)
	}
	if got := Value(l, p); got != value {
		t.Errorf("Value(%#x, %v) = %d, not %d", l, p, got, value)
	}
}

// checkNone asks of a row that is no tree, whatever dim is.
func checkNone(t *testing.T, what string, l []uint64) {
	t.Helper()
	for _, dim := range []int{least, -1, 0, 1, 4, 5, greatest} {
		if Right(l, dim) {
			t.Errorf("%s: Right(%#x, %d)", what, l, dim)
		}
	}
	if got := Leaves(l); len(got) != 0 {
		t.Errorf("%s: Leaves(%#x) = %v", what, l, got)
	}
	if got := Depth(l); got != 0 {
		t.Errorf("%s: Depth(%#x) = %d", what, l, got)
	}
}

func TestChapterRuns(t *testing.T) {
	l := run()
	checkWalk(t, l, api.Point{5}, 1, 10)
	checkWalk(t, l, api.Point{6}, 2, 20)
	if !Right(l, 1) || Depth(l) != 2 || !slices.Equal(Leaves(l), []int{1, 2}) {
		t.Error(Right(l, 1), Depth(l), Leaves(l))
	}
}

// P7.1 to P7.4 over all rows of up to four words, each a leaf, a word that is no node, or a fork to any places up to one behind the row.
func TestAllSmallRows(t *testing.T) {
	for count := 1; count <= 4; count++ {
		words := []uint64{leaf(9), 5}
		for left := 1; left <= count; left++ {
			for right := 1; right <= count; right++ {
				words = append(words, fork(0, 0, left, right))
			}
		}
		row := make([]uint64, count)
		total := 1
		for range count {
			total *= len(words)
		}
		for number := range total {
			for i := range row {
				row[i] = words[number%len(words)]
				number /= len(words)
			}
			checkRow(t, row, 1)
		}
	}
}

func TestRightTreesAreRight(t *testing.T) {
	for _, l := range someTrees() {
		if !isTree(l, api.MaxDim) {
			t.Fatalf("%#x should be a tree of these tests", l)
		}
		checkRow(t, l, api.MaxDim)
	}
}

func TestNumberOfNodes(t *testing.T) {
	checkNone(t, "nil", nil)
	checkNone(t, "empty", []uint64{})
	for _, l := range [][]uint64{{leaf(3)}, {leaf(math.MinInt32)}, full(5), chain(15, always), chain(15, never)} {
		if len(l) != 1 && len(l) != api.MaxNodes || !Right(l, api.MaxDim) {
			t.Errorf("Right of %d nodes = false", len(l))
		}
		checkNone(t, "one more", append(slices.Clone(l), leaf(1)))
	}
	checkNone(t, "two more", append(full(5), leaf(1), leaf(2)))
	checkNone(t, "a fork and its sides more", append(full(4), full(5)...))
	checkNone(t, "many leaves", slices.Repeat([]uint64{leaf(1)}, 1000))
	checkNone(t, "two leaves", []uint64{leaf(1), leaf(2)})
}

func TestWrongWordAtEachPlace(t *testing.T) {
	for _, l := range [][]uint64{{leaf(3)}, run(), mixed(), full(5), chain(15, everyOther)} {
		for at := range l {
			for _, w := range wrongWords() {
				row := slices.Clone(l)
				row[at] = w
				checkNone(t, "wrong word", row)
			}
			checkNone(t, "no word", append(slices.Clone(l[:at]), l[at+1:]...))
		}
	}
}

func TestTurnedBits(t *testing.T) {
	for _, l := range [][]uint64{{leaf(3)}, run(), mixed(), full(5), chain(15, everyOther)} {
		for at := range l {
			for bit := range 64 {
				row := slices.Clone(l)
				row[at] ^= 1 << bit
				checkRow(t, row, api.MaxDim)
			}
		}
	}
}

func TestFeaturesAreBelowDim(t *testing.T) {
	dims := []int{least, least + 1, -4, -1, 0, 1, 2, 3, 4, 5, 15, 16, 99, 1 << 32, greatest - 1, greatest}
	for _, dim := range dims {
		if !Right([]uint64{leaf(-1)}, dim) {
			t.Errorf("Right of a leaf and dim %d = false", dim)
		}
		for feature := range api.MaxDim {
			// The feature stands in the first fork, in a middle one and in the last one.
			for place := range 3 {
				f := [3]int{}
				f[place] = feature
				l := []uint64{fork(f[0], 1, 1, 2), fork(f[1], 2, 3, 4), leaf(0), fork(f[2], 3, 6, 5), leaf(1), leaf(2), leaf(3)}
				if got := Right(l, dim); got != (feature < dim) {
					t.Errorf("Right of feature %d in fork %d and dim %d = %v", feature, place, dim, got)
				}
				if Depth(l) != 4 || len(Leaves(l)) != 4 {
					t.Errorf("feature %d in fork %d: Depth %d, Leaves %v", feature, place, Depth(l), Leaves(l))
				}
			}
		}
	}
}

func TestWrongNames(t *testing.T) {
	for _, c := range []struct {
		what string
		l    []uint64
	}{
		{"back", []uint64{fork(0, 5, 2, 3), leaf(1), fork(0, 5, 1, 4), leaf(2), leaf(3)}},
		{"back on the right", []uint64{fork(0, 5, 2, 3), leaf(1), fork(0, 5, 4, 1), leaf(2), leaf(3)}},
		{"each other", []uint64{fork(0, 5, 3, 4), fork(0, 5, 2, 5), fork(0, 5, 1, 6), leaf(1), leaf(2), leaf(3), leaf(4)}},
		{"itself", []uint64{fork(0, 5, 2, 3), fork(0, 5, 1, 4), leaf(1), leaf(2), leaf(3)}},
		{"itself on the right", []uint64{fork(0, 5, 2, 3), fork(0, 5, 4, 1), leaf(1), leaf(2), leaf(3)}},
		{"itself twice", []uint64{fork(0, 5, 2, 3), fork(0, 5, 1, 1), leaf(1), leaf(2)}},
		{"out of the row", []uint64{fork(0, 5, 3, 1), leaf(1), leaf(2)}},
		{"out of the row on the right", []uint64{fork(0, 5, 1, 3), leaf(1), leaf(2)}},
		{"just out of the row", []uint64{fork(0, 5, 1, 2), leaf(1)}},
		{"far out of the row", []uint64{fork(0, 5, 1, 30), leaf(1)}},
		{"out of the row alone", []uint64{fork(0, 5, 1, 2)}},
		{"alike", []uint64{fork(0, 5, 1, 1), leaf(1)}},
		{"alike and one that nobody names", []uint64{fork(0, 5, 1, 1), leaf(1), leaf(2)}},
		{"alike further on", []uint64{fork(0, 5, 1, 2), leaf(1), fork(1, 5, 3, 3), leaf(2)}},
		{"named by two", []uint64{fork(0, 5, 1, 2), fork(1, 5, 3, 4), fork(2, 5, 4, 5), leaf(1), leaf(2), leaf(3)}},
		{"named by the root and another", []uint64{fork(0, 5, 1, 2), fork(1, 5, 2, 3), leaf(1), leaf(2)}},
		{"named by three", []uint64{fork(0, 5, 1, 3), fork(0, 5, 2, 3), fork(0, 5, 3, 4), leaf(1), leaf(2)}},
		{"a leaf that nobody names", []uint64{fork(0, 5, 1, 2), leaf(1), leaf(2), leaf(3)}},
		{"a leaf in the middle that nobody names", []uint64{fork(0, 5, 1, 3), leaf(1), leaf(2), leaf(3)}},
		{"a tree that nobody names", []uint64{fork(0, 5, 1, 2), leaf(1), leaf(2), fork(0, 5, 4, 5), leaf(3), leaf(4)}},
		{"nodes behind a leaf", []uint64{leaf(1), leaf(2), leaf(3)}},
		{"a tree behind a leaf", append([]uint64{leaf(1)}, fork(0, 5, 2, 3), leaf(2), leaf(3))},
	} {
		checkNone(t, c.what, c.l)
	}
}

func TestPointsAtThresholds(t *testing.T) {
	for feature := range api.MaxDim {
		for _, at := range []int{math.MinInt32, math.MinInt32 + 1, -5, -1, 0, 1, 5, 1000, math.MaxInt32 - 1, math.MaxInt32} {
			l := []uint64{fork(feature, at, 2, 1), leaf(-20), leaf(30)}
			for _, n := range []int{least, least + 1, at - 1, at, at + 1, greatest - 1, greatest} {
				// All other features would send the point to the other side.
				wantAt, wantValue, others := 2, 30, greatest
				if n > at {
					wantAt, wantValue, others = 1, -20, least
				}
				p := api.Point{others, others, others, others}
				p[feature] = n
				checkWalk(t, l, p, wantAt, wantValue)
			}
		}
	}
}

func TestWalksOfATree(t *testing.T) {
	l := mixed()
	checkWalk(t, l, api.Point{greatest, greatest, 10, greatest}, 3, -1)
	checkWalk(t, l, api.Point{-4, 99, 11, 7}, 6, -3)
	checkWalk(t, l, api.Point{-4, 99, 11, 8}, 4, -2)
	checkWalk(t, l, api.Point{-3, 0, 11, 7}, 8, -5)
	checkWalk(t, l, api.Point{-3, 1, 11, 7}, 7, -4)
	checkWalk(t, []uint64{leaf(-7)}, api.Point{}, 0, -7)
	checkWalk(t, []uint64{leaf(math.MinInt32)}, api.Point{least, greatest, 1, -1}, 0, math.MinInt32)
	checkWalk(t, []uint64{leaf(math.MaxInt32)}, api.Point{greatest}, 0, math.MaxInt32)
	checkWalk(t, []uint64{leaf(0)}, api.Point{3}, 0, 0)
}

func TestWalksOfNodesThatAreNotThere(t *testing.T) {
	low, high := api.Point{5}, api.Point{6}
	checkWalk(t, nil, low, -1, 0)
	checkWalk(t, []uint64{}, high, -1, 0)
	checkWalk(t, []uint64{fork(0, 5, 1, 2)}, low, -1, 0)
	checkWalk(t, []uint64{fork(0, 5, 1, 2)}, high, -1, 0)
	checkWalk(t, []uint64{fork(0, 5, 1, 2), leaf(4)}, low, 1, 4)
	checkWalk(t, []uint64{fork(0, 5, 1, 2), leaf(4)}, high, -1, 0)
	checkWalk(t, []uint64{fork(0, 5, 30, 1), leaf(4)}, low, -1, 0)
	checkWalk(t, []uint64{fork(0, 5, 30, 1), leaf(4)}, high, 1, 4)
	// What stands in the room behind a row's length isn't there.
	checkWalk(t, run()[:2], high, -1, 0)
	checkWalk(t, run()[:1], low, -1, 0)
	checkWalk(t, run()[:0], low, -1, 0)
	checkNone(t, "spare room", run()[:2])
	checkNone(t, "spare room", run()[:0])
}

func TestWalksOverWrongWords(t *testing.T) {
	for _, w := range wrongWords() {
		checkWalk(t, []uint64{w}, api.Point{5}, -1, 0)
		checkWalk(t, []uint64{w, leaf(1), leaf(2)}, api.Point{5}, -1, 0)
		checkWalk(t, []uint64{fork(0, 5, 1, 2), w, leaf(20)}, api.Point{5}, -1, 0)
		checkWalk(t, []uint64{fork(0, 5, 1, 2), w, leaf(20)}, api.Point{6}, 2, 20)
		checkWalk(t, []uint64{fork(0, 5, 1, 2), leaf(10), w}, api.Point{5}, 1, 10)
		checkWalk(t, []uint64{fork(0, 5, 1, 2), leaf(10), w}, api.Point{6}, -1, 0)
		checkWalk(t, []uint64{leaf(3), w, w}, api.Point{6}, 0, 3)
	}
	// Each place of a tree in turn: the ways that go by it end there, the others don't tell of it.
	for _, l := range [][]uint64{mixed(), full(4), chain(15, everyOther)} {
		for at := range l {
			row := slices.Clone(l)
			row[at] = 7
			for _, end := range leafPlaces(l) {
				wantAt, wantValue := end, valueAt(l, end)
				if slices.Contains(wayUp(l, end), at) {
					wantAt, wantValue = -1, 0
				}
				if p, ok := pointOf(l, end); ok {
					checkWalk(t, row, p, wantAt, wantValue)
				}
			}
		}
	}
}

// pointOf is a point that comes to a leaf; false, if the forks on its way leave none.
func pointOf(l []uint64, end int) (api.Point, bool) {
	p := api.Point{-1000, -1000, -1000, -1000}
	way := wayUp(l, end)
	for i := 1; i < len(way); i++ {
		if n, _ := node.Unpack(l[way[i]]); n.Right == way[i-1] {
			p[n.Feature] = max(p[n.Feature], n.At+1)
		}
	}
	return p, comesTo(l, end, p)
}

func TestWalksOfRowsThatAreNoTrees(t *testing.T) {
	alike := []uint64{fork(0, 5, 1, 1), leaf(4), leaf(8)}
	checkWalk(t, alike, api.Point{5}, 1, 4)
	checkWalk(t, alike, api.Point{6}, 1, 4)
	back := []uint64{fork(0, 5, 2, 3), leaf(4), fork(1, 5, 1, 4), leaf(8), leaf(9)}
	checkWalk(t, back, api.Point{5, 5}, 1, 4)
	checkWalk(t, back, api.Point{5, 6}, 4, 9)
	checkWalk(t, []uint64{leaf(4), leaf(8)}, api.Point{5}, 0, 4)
	long := append(full(5), slices.Repeat([]uint64{leaf(1)}, 100)...)
	checkWalk(t, long, api.Point{greatest, greatest, greatest, greatest}, 30, 130)
	checkWalk(t, long, api.Point{least, least, least, least}, 15, 115)
}

func TestWaysThatGoRound(t *testing.T) {
	low, high := api.Point{5}, api.Point{6}
	itself := []uint64{fork(0, 5, 1, 2), fork(0, 9, 1, 2), leaf(8)}
	checkWalk(t, itself, low, -1, 0)
	checkWalk(t, itself, high, 2, 8)
	checkWalk(t, []uint64{fork(0, 5, 1, 1), fork(0, 5, 1, 1)}, low, -1, 0)
	two := []uint64{fork(0, 5, 1, 3), fork(1, 5, 2, 3), fork(2, 5, 1, 3), leaf(8)}
	checkWalk(t, two, api.Point{0, 0, 0}, -1, 0)
	checkWalk(t, two, api.Point{0, 0, 9}, 3, 8)
	checkWalk(t, two, api.Point{0, 9, 0}, 3, 8)
	checkNone(t, "round", two)

	// One fork after another through all places: the MaxNodes-th node on the way is the leaf, or it leads back.
	var row []uint64
	for at := range api.MaxNodes - 1 {
		row = append(row, fork(0, 5, at+1, at+1))
	}
	checkWalk(t, append(slices.Clone(row), leaf(-9)), low, 30, -9)
	checkWalk(t, append(slices.Clone(row), leaf(-9)), high, 30, -9)
	for at := 1; at < api.MaxNodes; at++ {
		checkWalk(t, append(slices.Clone(row), fork(0, 5, at, at)), low, -1, 0)
		checkWalk(t, append(slices.Clone(row), fork(0, 5, at, at), leaf(3)), high, -1, 0)
	}
}

func TestLeavesAndDepth(t *testing.T) {
	chainLeaves := []int{1, 3, 5, 7, 9, 11, 13, 15, 17, 19, 21, 23, 25, 27, 29, 30}
	for _, c := range []struct {
		l      []uint64
		leaves []int
		depth  int
	}{
		{[]uint64{leaf(1)}, []int{0}, 1},
		{run(), []int{1, 2}, 2},
		{mixed(), []int{3, 4, 6, 7, 8}, 4},
		{chain(15, always), chainLeaves, 16},
		{chain(15, never), chainLeaves, 16},
		{chain(15, everyOther), chainLeaves, 16},
		{full(3), []int{3, 4, 5, 6}, 3},
		{full(5), []int{15, 16, 17, 18, 19, 20, 21, 22, 23, 24, 25, 26, 27, 28, 29, 30}, 5},
		// The longest way ends ahead of shorter ones.
		{[]uint64{fork(0, 5, 1, 6), fork(0, 5, 2, 5), fork(0, 5, 3, 4), leaf(1), leaf(2), leaf(3), leaf(4)}, []int{3, 4, 5, 6}, 4},
		{[]uint64{fork(0, 5, 6, 1), fork(0, 5, 5, 2), fork(0, 5, 4, 3), leaf(1), leaf(2), leaf(3), leaf(4)}, []int{3, 4, 5, 6}, 4},
	} {
		if got := Leaves(c.l); !slices.Equal(got, c.leaves) {
			t.Errorf("Leaves(%#x) = %v, not %v", c.l, got, c.leaves)
		}
		if got := Depth(c.l); got != c.depth {
			t.Errorf("Depth(%#x) = %d, not %d", c.l, got, c.depth)
		}
	}
}

func TestOneLeafMoreThanOtherNodes(t *testing.T) {
	for _, l := range someTrees() {
		if leaves := len(Leaves(l)); leaves != len(l)-leaves+1 {
			t.Errorf("%#x has %d leaves and %d other nodes", l, leaves, len(l)-leaves)
		}
	}
}

func TestEachPointHasOneLeaf(t *testing.T) {
	d := &dice{21}
	for _, l := range someTrees() {
		for range 40 {
			p := api.Point{d.below(13) - 6, d.below(13) - 6, d.below(13) - 6, d.below(13) - 6}
			var ends []int
			for _, at := range Leaves(l) {
				if comesTo(l, at, p) {
					ends = append(ends, at)
				}
			}
			if len(ends) != 1 {
				t.Fatalf("%v comes to %v in %#x", p, ends, l)
			}
			checkWalk(t, l, p, ends[0], valueAt(l, ends[0]))
		}
	}
}

func TestNothingHandedInIsChangedOrShared(t *testing.T) {
	rows := append(someTrees(), []uint64{fork(0, 5, 1, 1), leaf(4)}, []uint64{7, 7, 7}, append(full(5), leaf(1)))
	for _, tree := range rows {
		spare := []uint64{leaf(1), 3, fork(0, 1, 1, 2)}
		whole := append(slices.Clone(tree), spare...)
		l := whole[:len(tree)]
		Right(l, 4)
		Walk(l, api.Point{1, -1, 2, 0})
		Value(l, api.Point{1, -1, 2, 0})
		Depth(l)
		first := Leaves(l)
		second := Leaves(l)
		// Writing over one answer and the room behind it must not be seen in another one, nor in the row.
		for i := range first[:cap(first)] {
			first[:cap(first)][i] = -1
		}
		if !slices.Equal(whole, append(slices.Clone(tree), spare...)) {
			t.Errorf("%#x is now %#x", tree, whole)
		}
		if again := Leaves(l); !slices.Equal(second, again) || slices.Contains(second, -1) {
			t.Errorf("Leaves of %#x: %v, then %v", tree, second, again)
		}
	}
}
