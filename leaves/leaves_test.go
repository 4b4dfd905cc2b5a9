package leaves

import (
	"math"
	"slices"
	"testing"

	"copse/api"
	"copse/box"
	"copse/node"
	"copse/tree"
)

const (
	least    = math.MinInt64
	greatest = math.MaxInt64
	low32    = math.MinInt32
	high32   = math.MaxInt32
)

func leaf(value int) uint64 { return node.Pack(api.Node{Leaf: true, Value: value}) }

func fork(feature, at, left, right int) uint64 {
	return node.Pack(api.Node{Feature: feature, At: at, Left: left, Right: right})
}

// stump is a tree of one fork.
func stump(feature, at, low, high int) []uint64 {
	return []uint64{fork(feature, at, 1, 2), leaf(low), leaf(high)}
}

// of is a box by Lo, Hi of each place in turn; (0, 0) in all others.
func of(l ...int) api.Box {
	var b api.Box
	for i := 0; i+1 < len(l); i += 2 {
		b[i/2] = api.Span{Lo: l[i], Hi: l[i+1]}
	}
	return b
}

// with is b with another span at the place.
func with(b api.Box, place, lo, hi int) api.Box {
	b[place] = api.Span{Lo: lo, Hi: hi}
	return b
}

func piece(value int, l ...int) api.Piece { return api.Piece{Box: of(l...), Value: value} }

// plane is the box of all that there is.
func plane() api.Box {
	return of(least, greatest, least, greatest, least, greatest, least, greatest, least, greatest)
}

func checkList(t *testing.T, l []uint64, b api.Box, want ...api.Piece) {
	t.Helper()
	if got := List(l, b); !slices.Equal(got, want) {
		t.Errorf("List(%x, %v) = %v, not %v", l, b, got, want)
	}
}

func checkAt(t *testing.T, ps []api.Piece, p api.Point, twin, want int, is bool) {
	t.Helper()
	if got, ok := At(ps, p, twin); got != want || ok != is {
		t.Errorf("At(%v, %v, %d) = %d, %v, not %d, %v", ps, p, twin, got, ok, want, is)
	}
}

func checkHull(t *testing.T, want api.Box, ps ...api.Piece) {
	t.Helper()
	if got := Hull(ps); got != want {
		t.Errorf("Hull(%v) = %v, not %v", ps, got, want)
	}
}

func TestRunsOfTheChapter(t *testing.T) {
	l := stump(0, 5, 10, 20)
	checkList(t, l, of(3, 9), piece(10, 3, 5), piece(20, 6, 9))
	checkList(t, l, of(6, 9), piece(20, 6, 9))
}

func TestListOfOneLeaf(t *testing.T) {
	for _, value := range []int{0, 1, -1, 10, low32, low32 + 1, high32, high32 - 1} {
		for _, b := range []api.Box{{}, of(3, 9), of(1, 2, 3, 4, 5, 6, 7, 8, 9, 10), of(7, 7, -7, -7, least, least, greatest, greatest, 1, 1), plane()} {
			checkList(t, []uint64{leaf(value)}, b, api.Piece{Box: b, Value: value})
		}
	}
}

// Each place of the box goes along as it is, but the one whose feature is asked.
func TestListOfOneNode(t *testing.T) {
	b := of(-9, 9, -8, 8, -7, 7, -6, 6, -5, 5)
	for feature := range api.MaxDim {
		for at := -12; at <= 12; at++ {
			lo, hi := b[feature].Lo, b[feature].Hi
			low := api.Piece{Box: with(b, feature, lo, at), Value: -3}
			high := api.Piece{Box: with(b, feature, at+1, hi), Value: 4}
			all := b
			switch l := stump(feature, at, -3, 4); {
			case at < lo:
				checkList(t, l, all, api.Piece{Box: all, Value: 4})
			case at >= hi:
				checkList(t, l, all, api.Piece{Box: all, Value: -3})
			default:
				checkList(t, l, all, low, high)
			}
		}
	}
}

func TestListAtTheEdges(t *testing.T) {
	for _, at := range []int{low32, low32 + 1, -1, 0, 1, 5, high32 - 1, high32} {
		for feature := range api.MaxDim {
			l := stump(feature, at, low32, high32)
			base := of(1, 2, 3, 4, 5, 6, 7, 8, 9, 10)
			low := func(lo, hi int) api.Piece { return api.Piece{Box: with(base, feature, lo, hi), Value: low32} }
			high := func(lo, hi int) api.Piece { return api.Piece{Box: with(base, feature, lo, hi), Value: high32} }
			for _, c := range []struct {
				lo, hi int
				want   []api.Piece
			}{
				{least, greatest, []api.Piece{low(least, at), high(at+1, greatest)}},
				{at, at + 1, []api.Piece{low(at, at), high(at+1, at+1)}},
				{at, greatest, []api.Piece{low(at, at), high(at+1, greatest)}},
				{least, at + 1, []api.Piece{low(least, at), high(at+1, at+1)}},
				{at - 1, at + 2, []api.Piece{low(at-1, at), high(at+1, at+2)}},
				{at, at, []api.Piece{low(at, at)}}, {at - 1, at, []api.Piece{low(at-1, at)}}, {least, at, []api.Piece{low(least, at)}},
				{least, at - 1, []api.Piece{low(least, at-1)}}, {least, least, []api.Piece{low(least, least)}},
				{at + 1, at + 1, []api.Piece{high(at+1, at+1)}}, {at + 1, at + 2, []api.Piece{high(at+1, at+2)}}, {at + 1, greatest, []api.Piece{high(at+1, greatest)}},
				{at + 2, greatest, []api.Piece{high(at+2, greatest)}}, {greatest, greatest, []api.Piece{high(greatest, greatest)}},
				{at + 1, at, nil}, {at, at - 1, nil}, {at + 5, at - 5, nil}, {greatest, least, nil}, {greatest, at, nil}, {at, least, nil},
			} {
				checkList(t, l, with(base, feature, c.lo, c.hi), c.want...)
			}
		}
	}
}

// No number of a box is asked for by its Twin: its span goes along as it is.
func TestListPassesTheTwinOver(t *testing.T) {
	for _, s := range []api.Span{{Lo: 5, Hi: 5}, {Lo: 0, Hi: 9}, {Lo: 6, Hi: 8}, {Lo: least, Hi: 4}, {Lo: least, Hi: greatest}, {Lo: greatest, Hi: greatest}} {
		for feature := range api.MaxDim {
			b := with(of(3, 9, 3, 9, 3, 9, 3, 9), api.Twin, s.Lo, s.Hi)
			checkList(t, stump(feature, 5, 1, 2), b, api.Piece{Box: with(b, feature, 3, 5), Value: 1}, api.Piece{Box: with(b, feature, 6, 9), Value: 2})
		}
	}
}

func TestListOfEmptyBoxes(t *testing.T) {
	rows := [][]uint64{{leaf(7)}, stump(0, 5, 10, 20), stump(1, 5, 10, 20), stump(2, 5, 10, 20), stump(3, 5, 10, 20), twice(), comb(15)}
	for place := range plane() {
		for _, s := range []api.Span{{Lo: 1, Hi: 0}, {Lo: 6, Hi: 5}, {Lo: 9, Hi: 3}, {Lo: 5, Hi: 4}, {Lo: greatest, Hi: least}, {Lo: 0, Hi: least}, {Lo: greatest, Hi: greatest - 1}} {
			for _, b := range []api.Box{{}, of(3, 9, 3, 9, 3, 9, 3, 9, 3, 9), plane()} {
				for _, l := range rows {
					checkList(t, l, with(b, place, s.Lo, s.Hi))
				}
			}
		}
	}
}

// twice asks for feature 0 three times and for feature 2 once: nothing comes to its leaf at place 5.
func twice() []uint64 {
	return []uint64{fork(0, 5, 3, 1), fork(2, -4, 2, 6), leaf(20), fork(0, 2, 7, 4), fork(0, 8, 8, 5), leaf(50), leaf(60), leaf(70), leaf(80)}
}

func TestListOfAFeatureAskedTwice(t *testing.T) {
	checkList(t, twice(), of(0, 9, 1, 1, -9, 9), piece(20, 6, 9, 1, 1, -9, -4), piece(60, 6, 9, 1, 1, -3, 9), piece(70, 0, 2, 1, 1, -9, 9), piece(80, 3, 5, 1, 1, -9, 9))
	checkList(t, twice(), of(2, 3, 0, 0, 1, 1, 0, 0, -5, 5), piece(70, 2, 2, 0, 0, 1, 1, 0, 0, -5, 5), piece(80, 3, 3, 0, 0, 1, 1, 0, 0, -5, 5))
	checkList(t, twice(), of(5, 6, 0, 0, -4, -3), piece(20, 6, 6, 0, 0, -4, -4), piece(60, 6, 6, 0, 0, -3, -3), piece(80, 5, 5, 0, 0, -4, -3))
	checkList(t, twice(), of(9, 9, 0, 0, -9, -9), piece(20, 9, 9, 0, 0, -9, -9))
	checkList(t, twice(), of(4, 4, 0, 0, -9, 9), piece(80, 4, 4, 0, 0, -9, 9))
	checkList(t, twice(), plane(),
		api.Piece{Box: with(with(plane(), 0, 6, greatest), 2, least, -4), Value: 20}, api.Piece{Box: with(with(plane(), 0, 6, greatest), 2, -3, greatest), Value: 60},
		api.Piece{Box: with(plane(), 0, least, 2), Value: 70}, api.Piece{Box: with(plane(), 0, 3, 5), Value: 80})
}

// A threshold that is asked again on the same way parts nothing.
func TestListOfOneThresholdAskedTwice(t *testing.T) {
	l := []uint64{fork(1, 3, 1, 2), fork(1, 3, 3, 4), fork(1, 3, 5, 6), leaf(1), leaf(2), leaf(3), leaf(4)}
	checkList(t, l, of(0, 0, 0, 9), piece(1, 0, 0, 0, 3), piece(4, 0, 0, 4, 9))
	checkList(t, l, of(0, 0, 0, 3), piece(1, 0, 0, 0, 3))
	checkList(t, l, of(0, 0, 4, 9), piece(4, 0, 0, 4, 9))
}

// comb parts the first feature at 0, 10, 20 ...: its leaves rise, if the one above all thresholds is the last.
func comb(forks int) []uint64 {
	var l []uint64
	for i := range forks {
		l = append(l, fork(0, 10*i, 2*i+1, 2*i+2), leaf(i))
	}
	return append(l, leaf(forks))
}

func TestListOfTheLargestTrees(t *testing.T) {
	want := []api.Piece{piece(0, -5, 0)}
	for i := 1; i < 15; i++ {
		want = append(want, piece(i, 10*i-9, 10*i))
	}
	want = append(want, piece(15, 141, 999))
	checkList(t, comb(15), of(-5, 999), want...)
	checkList(t, comb(15), of(1, 140), want[1:15]...)
	checkList(t, comb(15), of(35, 52), piece(4, 35, 40), piece(5, 41, 50), piece(6, 51, 52))
	checkList(t, comb(16), of(-5, 999))
}

func TestListByRisingPlaces(t *testing.T) {
	// The lower part of each cut stands behind the upper one.
	l := []uint64{fork(0, 5, 2, 1), leaf(30), fork(0, 3, 4, 3), leaf(20), leaf(10)}
	checkList(t, l, of(0, 9), piece(30, 6, 9), piece(20, 4, 5), piece(10, 0, 3))
	// So do equal values, and equal boxes of other values none: each leaf is told by itself.
	l = []uint64{fork(0, 5, 3, 1), fork(1, 5, 4, 2), leaf(7), leaf(7), leaf(7)}
	checkList(t, l, of(0, 9, 0, 9), piece(7, 6, 9, 6, 9), piece(7, 0, 5, 0, 9), piece(7, 6, 9, 0, 5))
}

// wrongRows are no right trees.
func wrongRows() [][]uint64 {
	lists := [][]uint64{nil, {}, {0}, {1}, {math.MaxUint64}, {1 << 63, 1 << 63}, {leaf(4), leaf(5)}, {leaf(4), leaf(5), leaf(6)}, {fork(0, 5, 1, 2)}, {fork(0, 5, 1, 2), leaf(1)},
		{fork(0, 5, 1, 2), leaf(1), 0}, {fork(0, 5, 1, 2), leaf(1), leaf(2), leaf(3)}, {fork(0, 5, 1, 1), leaf(1)}, {fork(0, 5, 1, 1), leaf(1), leaf(2)}, {fork(0, 5, 1, 3), leaf(1), leaf(2)},
		{fork(0, 5, 1, 2), fork(0, 5, 1, 2), leaf(2)}, {fork(0, 5, 1, 2), fork(1, 5, 2, 1), leaf(2)}, {fork(0, 5, 1, 2), leaf(1), fork(0, 5, 1, 2)},
		{fork(0, 5, 1, 2), leaf(1), fork(0, 5, 1, 3), leaf(2)}, {fork(0, 5, 1, 2), fork(0, 5, 3, 4), fork(0, 5, 3, 4), leaf(1), leaf(2)},
		{leaf(1), fork(0, 5, 1, 2), leaf(2)}, {leaf(4) | 1<<40}, {leaf(4) | 1<<32}, {leaf(4) | 1<<62}, comb(16), comb(20),
		append(comb(15), leaf(1)), comb(15)[:30], comb(15)[1:]}
	// Features that there aren't, bits that have no meaning.
	for _, bit := range []int{34, 35, 36, 39, 45, 47, 53, 55, 56, 62, 63} {
		l := stump(0, 5, 10, 20)
		l[0] |= 1 << bit
		lists = append(lists, l)
	}
	return lists
}

func TestListOfWrongRows(t *testing.T) {
	for _, l := range wrongRows() {
		if tree.Right(l, api.MaxDim) {
			t.Fatalf("%x is right", l)
		}
		for _, b := range []api.Box{{}, of(1, 2), of(0, 9, 0, 9, 0, 9, 0, 9), of(6, 9), of(9, 6), plane()} {
			checkList(t, l, b)
		}
	}
}

func TestAtOfPieces(t *testing.T) {
	lone := []api.Piece{piece(9, 3, 5, -2, 2, 0, 0, 7, 8, -1, 4)}
	inside := api.Point{4, 0, 0, 7}
	for twin := -4; twin <= 8; twin++ {
		checkAt(t, lone, inside, twin, valueIf(twin >= -1 && twin <= 4, 9), twin >= -1 && twin <= 4)
	}
	for place, s := range lone[0].Box[:api.MaxDim] {
		for n := s.Lo - 3; n <= s.Hi+3; n++ {
			p := inside
			p[place] = n
			is := n >= s.Lo && n <= s.Hi
			checkAt(t, lone, p, 2, valueIf(is, 9), is)
			checkAt(t, lone, p, 5, 0, false)
			checkAt(t, lone, p, -2, 0, false)
		}
	}
	for _, twin := range []int{least, -1, 0, 1, greatest} {
		checkAt(t, nil, inside, twin, 0, false)
		checkAt(t, []api.Piece{}, api.Point{}, twin, 0, false)
		checkAt(t, []api.Piece{piece(9, 1, 0)}, api.Point{}, twin, 0, false)
		checkAt(t, []api.Piece{{Box: plane(), Value: -8}}, api.Point{least, greatest, 0, least}, twin, -8, true)
	}
}

func valueIf(is bool, value int) int {
	if is {
		return value
	}
	return 0
}

func TestAtOfTheEdges(t *testing.T) {
	ps := []api.Piece{piece(least, least, least, 0, 0, 0, 0, 0, 0, greatest, greatest), piece(greatest, greatest, greatest, 0, 0, 0, 0, 0, 0, least, least)}
	checkAt(t, ps, api.Point{least}, greatest, least, true)
	checkAt(t, ps, api.Point{greatest}, least, greatest, true)
	checkAt(t, ps, api.Point{least}, least, 0, false)
	checkAt(t, ps, api.Point{greatest}, greatest, 0, false)
	checkAt(t, ps, api.Point{least}, greatest-1, 0, false)
	checkAt(t, ps, api.Point{greatest}, least+1, 0, false)
	// A value of 0 is told beside true.
	checkAt(t, []api.Piece{piece(0, 1, 2)}, api.Point{1}, 0, 0, true)
}

// Of pieces that share points the first has its say, wherever it stands.
func TestAtOfSeveral(t *testing.T) {
	ps := []api.Piece{piece(1, 9, 1), piece(2, 3, 5), piece(3, 4, 8), piece(4, 4, 8), piece(5, 0, 20, 0, 0, 0, 0, 0, 0, 0, 1)}
	for n, want := range []int{5, 5, 5, 2, 2, 2, 3, 3, 3, 5, 5} {
		checkAt(t, ps, api.Point{n}, 0, want, true)
		checkAt(t, ps, api.Point{n}, 1, 5, true)
		checkAt(t, ps, api.Point{n}, 2, 0, false)
		checkAt(t, ps[:4], api.Point{n}, 0, valueIf(want != 5, want), want != 5)
		checkAt(t, ps, api.Point{n, 1}, 0, 0, false)
	}
	slices.Reverse(ps)
	for n, want := range []int{5, 5, 5, 5, 5, 5, 5, 5, 5, 5, 5} {
		checkAt(t, ps, api.Point{n}, 0, want, true)
		checkAt(t, ps[1:], api.Point{n}, 0, []int{0, 0, 0, 2, 4, 4, 4, 4, 4, 0, 0}[n], n >= 3 && n <= 8)
	}
}

func TestHullOfPieces(t *testing.T) {
	checkHull(t, api.Box{})
	if got := Hull([]api.Piece{}); got != (api.Box{}) {
		t.Error(got)
	}
	for _, b := range []api.Box{{}, of(3, 9), of(1, 2, 3, 4, 5, 6, 7, 8, 9, 10), of(-5, -3, -9, -9, -1, -1, -2, -1, -7, -7), of(5, 3, 0, 0, 1, 0), plane(), of(greatest, least)} {
		checkHull(t, b, api.Piece{Box: b, Value: 5})
		checkHull(t, b, api.Piece{Box: b, Value: 5}, api.Piece{Box: b, Value: -6})
		checkHull(t, plane(), api.Piece{Box: b}, api.Piece{Box: plane()})
		checkHull(t, plane(), api.Piece{Box: plane()}, api.Piece{Box: b})
	}
	// What lies apart, at each place.
	for place := range plane() {
		low, high := with(api.Box{}, place, -9, -7), with(api.Box{}, place, 4, 6)
		checkHull(t, with(api.Box{}, place, -9, 6), api.Piece{Box: low}, api.Piece{Box: high})
		checkHull(t, with(api.Box{}, place, -9, 6), api.Piece{Box: high}, api.Piece{Box: low})
		checkHull(t, with(api.Box{}, place, -9, 6), api.Piece{Box: high}, api.Piece{Box: low}, api.Piece{})
		checkHull(t, with(api.Box{}, place, 0, 6), api.Piece{Box: high}, api.Piece{})
		checkHull(t, with(api.Box{}, place, -9, 0), api.Piece{}, api.Piece{Box: low})
		checkHull(t, with(api.Box{}, place, least, greatest), api.Piece{Box: with(api.Box{}, place, greatest, greatest)}, api.Piece{Box: with(api.Box{}, place, least, least)})
	}
	checkHull(t, of(2, 6, 1, 9, 0, 0, 0, 0, -1, 1), piece(1, 5, 6, 1, 1), piece(2, 2, 3, 4, 9, 0, 0, 0, 0, -1, 1))
	checkHull(t, of(-1, 8, 0, 7, -3, 3, -9, 9, 5, 7), piece(1, -1, 0, 6, 7, -3, -3, 9, 9, 5, 5), piece(1, 4, 5, 3, 3, 0, 3, 0, 0, 6, 6), piece(1, 8, 8, 0, 1, 1, 1, -9, -9, 7, 7))
}

// An empty box is a piece like others: its Los and His have their say.
func TestHullOfEmptyBoxesToo(t *testing.T) {
	checkHull(t, of(1, 6), piece(1, 5, 6), piece(2, 1, 0))
	checkHull(t, of(1, 6), piece(2, 1, 0), piece(1, 5, 6))
	checkHull(t, of(5, 6), piece(1, 5, 6), piece(2, 9, 3))
	checkHull(t, of(-4, 6, 0, 0), piece(1, 5, 6, 0, 0), piece(2, 3, 4, 8, -2), piece(3, -4, -5))
	checkHull(t, of(-4, 6, 4, 7), piece(1, 5, 6, 6, 7), piece(2, 3, 4, 8, -2), piece(3, -4, -5, 4, 3))
	checkHull(t, of(7, 3), piece(1, 9, 3), piece(2, 7, 2))
	checkHull(t, of(2, 9), piece(1, 9, 8), piece(2, 2, 1), piece(3, 10, 9))
}

// dice tell numbers by a rule of their own, so that each run of the tests makes the same trees.
type dice struct{ state uint64 }

func (d *dice) below(n int) int {
	d.state = d.state*6364136223846793005 + 1442695040888963407
	return int(d.state>>33) % n
}

// grown is a tree with so many forks, whose nodes stand in any order in which each is behind the one that names it.
func grown(d *dice, forks, dim, spread int) []uint64 {
	type side struct {
		of   int
		left bool
	}
	nodes := []api.Node{}
	open := []side{{of: -1}}
	for len(open) > 0 {
		pick := d.below(len(open))
		s, at := open[pick], len(nodes)
		open = slices.Delete(open, pick, pick+1)
		if s.of >= 0 && s.left {
			nodes[s.of].Left = at
		} else if s.of >= 0 {
			nodes[s.of].Right = at
		}
		if forks > 0 && (len(open) == 0 || d.below(2) == 0) {
			forks--
			nodes = append(nodes, api.Node{Feature: d.below(dim), At: d.below(2*spread+1) - spread})
			open = append(open, side{at, true}, side{at, false})
			continue
		}
		nodes = append(nodes, api.Node{Leaf: true, Value: d.below(9) - 4})
	}
	var l []uint64
	for _, n := range nodes {
		l = append(l, node.Pack(n))
	}
	return l
}

// region is a small box that isn't empty.
func region(d *dice, wide int) api.Box {
	var b api.Box
	for place := range b {
		b[place].Lo = -d.below(wide + 1)
		b[place].Hi = b[place].Lo + d.below(2*wide+1)
	}
	return b
}

// climbed are the pieces by ways gone up from each leaf to the root.
func climbed(l []uint64, b api.Box) []api.Piece {
	var ps []api.Piece
	for place, w := range l {
		n, _ := node.Unpack(w)
		if !n.Leaf {
			continue
		}
		p := api.Piece{Box: b, Value: n.Value}
		for child, at := place, place-1; at >= 0; at-- {
			up, _ := node.Unpack(l[at])
			if up.Leaf || up.Left != child && up.Right != child {
				continue
			}
			if s := &p.Box[up.Feature]; up.Left == child {
				s.Hi = min(s.Hi, up.At)
			} else {
				s.Lo = max(s.Lo, up.At+1)
			}
			child = at
		}
		if !slices.ContainsFunc(p.Box[:], func(s api.Span) bool { return s.Lo > s.Hi }) {
			ps = append(ps, p)
		}
	}
	return ps
}

func TestListOfManyTrees(t *testing.T) {
	d := &dice{13}
	seen := map[int]int{}
	for range 4000 {
		l := grown(d, d.below(16), 1+d.below(api.MaxDim), 5)
		if !tree.Right(l, api.MaxDim) {
			t.Fatalf("%x is no tree", l)
		}
		for _, b := range []api.Box{region(d, 9), region(d, 3), plane(), of(low32, high32, low32, high32, low32, high32, low32, high32)} {
			want := climbed(l, b)
			checkList(t, l, b, want...)
			seen[len(want)]++
			checkHull(t, b, want...)
		}
	}
	if len(seen) < 12 || seen[1] > 8000 {
		t.Error("too much of the same:", seen)
	}
}

// pointsOf are all points of a small box, each with the second's number.
func pointsOf(b api.Box) [][api.MaxDim + 1]int {
	l := [][api.MaxDim + 1]int{{}}
	for place, s := range b {
		var next [][api.MaxDim + 1]int
		for _, p := range l {
			for n := s.Lo; n <= s.Hi; n++ {
				p[place] = n
				next = append(next, p)
			}
		}
		l = next
	}
	return l
}

// P13.3: each point of the box is in one piece, the tree's value is this piece's, and no piece has a point that the box hasn't.
func TestPiecesPartTheBox(t *testing.T) {
	d := &dice{133}
	several := 0
	for range 400 {
		l := grown(d, 15-d.below(4)*d.below(6), 4-d.below(2)*d.below(4), 2)
		b := region(d, 3)
		ps := List(l, b)
		counts := make([]int, len(ps))
		for _, p := range pointsOf(b) {
			point, twin := api.Point(p[:api.MaxDim]), p[api.Twin]
			homes := 0
			for i, piece := range ps {
				if box.Has(piece.Box, point, twin) {
					homes++
					counts[i]++
				}
			}
			if homes != 1 {
				t.Fatalf("%v is in %d pieces of %v", p, homes, ps)
			}
			checkAt(t, ps, point, twin, tree.Value(l, point), true)
			checkAt(t, ps, point, b[api.Twin].Hi+1, 0, false)
			checkAt(t, ps, point, b[api.Twin].Lo-1, 0, false)
		}
		for i, n := range counts {
			if n == 0 || !box.Within(ps[i].Box, b) {
				t.Errorf("%v has nothing of %v, or more", ps[i], b)
			}
		}
		if len(ps) > 3 {
			several++
		}
	}
	if several < 50 {
		t.Error("too few pieces, but", several, "times")
	}
}

// Where a list of pieces has each point once, their order has no say.
func TestAtOfPiecesInAnyOrder(t *testing.T) {
	d := &dice{31}
	for range 200 {
		l := grown(d, d.below(16), 2, 4)
		b := region(d, 4)
		b[2], b[3], b[api.Twin] = api.Span{}, api.Span{}, api.Span{}
		ps := List(l, b)
		for i := range ps {
			j := d.below(i + 1)
			ps[i], ps[j] = ps[j], ps[i]
		}
		for _, p := range pointsOf(b) {
			point := api.Point(p[:api.MaxDim])
			checkAt(t, ps, point, 0, tree.Value(l, point), true)
		}
		checkHull(t, b, ps...)
	}
}

// What comes in stays as it was, and the room behind it is neither read nor written.
func TestWhatIsHandedInStays(t *testing.T) {
	d := &dice{2}
	for range 200 {
		bare := grown(d, d.below(16), 4, 4)
		words := slices.Concat(bare, []uint64{fork(0, 0, 1, 2), leaf(77), 0, 5})
		keptWords := slices.Clone(words)
		l, b := words[:len(bare)], region(d, 2)
		ps := List(l, b)
		if !slices.Equal(words, keptWords) || !slices.Equal(ps, climbed(bare, b)) {
			t.Errorf("%x, not %x", words, keptWords)
		}
		pieces := slices.Concat(ps, []api.Piece{{Box: plane(), Value: 99}, {Box: of(greatest, least)}})
		keptPieces := slices.Clone(pieces)
		checkHull(t, b, pieces[:len(ps)]...)
		for _, p := range pointsOf(b) {
			point := api.Point(p[:api.MaxDim])
			checkAt(t, pieces[:len(ps)], point, p[api.Twin], tree.Value(bare, point), true)
			checkAt(t, pieces[:len(ps)], point, b[api.Twin].Hi+1, 0, false)
			checkAt(t, pieces[:0], point, p[api.Twin], 0, false)
		}
		if !slices.Equal(pieces, keptPieces) || Hull(pieces[:0]) != (api.Box{}) {
			t.Errorf("%v, not %v", pieces, keptPieces)
		}
	}
}

// Answers share nothing with what is answered later, the room behind them neither.
func TestAnswersAreNewMemory(t *testing.T) {
	b := of(0, 9, 1, 1, -9, 9)
	ps := List(twice(), b)
	want := slices.Clone(ps)
	ps = ps[:cap(ps)]
	for i := range ps {
		ps[i] = piece(-1, -1, -1)
	}
	checkList(t, twice(), b, want...)
}
