package node

import (
	"math"
	"testing"

	"copse/api"
)

const (
	least    = math.MinInt64
	greatest = math.MaxInt64
	allOnes  = ^uint64(0)
)

// The numbers by which a field is moved to its place, written out so that the tests lean on no shift.
const (
	byFeature = 0x0000000100000000
	byLeft    = 0x0000010000000000
	byRight   = 0x0001000000000000
	byLeaf    = 0x8000000000000000
)

func leaf(value int) api.Node { return api.Node{Leaf: true, Value: value} }

func fork(feature, at, left, right int) api.Node {
	return api.Node{Feature: feature, At: at, Left: left, Right: right}
}

// numbers of 32 bits: ordinary ones, the bounds, and each power of two on both sides of 0.
func numbers() []int {
	list := []int{0, 5, -5, 123456789, -987654321, math.MinInt32, math.MinInt32 + 1, math.MaxInt32 - 1, math.MaxInt32}
	for n := 1; n < math.MaxInt32; n *= 2 {
		list = append(list, n, -n, n-1, -n-1)
	}
	return list
}

// wideNumbers have more than 32 bits, the lowest 32 of some being those of small numbers.
func wideNumbers() []int {
	return []int{math.MaxInt32 + 1, math.MinInt32 - 1, math.MaxUint32, math.MaxUint32 + 1, math.MaxUint32 + 6, -math.MaxUint32 - 1, -math.MaxUint32 + 4,
		1 << 62, -1 << 62, least, least + 1, greatest - 1, greatest}
}

func wrongFeatures() []int {
	return []int{-1, -2, -4, -16, api.MaxDim, api.MaxDim + 1, 15, 16, 17, 256, 1 << 32, 1<<32 + 1, least, least + 1, greatest - 1, greatest}
}

func wrongSides() []int {
	return []int{0, -1, -2, -30, -255, -256, api.MaxNodes, api.MaxNodes + 1, 255, 256, 257, 256 + 30, 1 << 32, 1<<32 + 1, least, least + 1, greatest - 1, greatest}
}

// rightNodes are leaves and others, each number at its bounds and inside.
func rightNodes() []api.Node {
	var list []api.Node
	for _, n := range numbers() {
		list = append(list, leaf(n), fork(0, n, 1, 1), fork(3, n, 30, 30), fork(2, n, 3, 4))
	}
	for feature := range 4 {
		for side := 1; side <= 30; side++ {
			list = append(list, fork(feature, 7, side, 1), fork(feature, -7, 30, side), fork(feature, 0, side, 31-side))
		}
	}
	return list
}

// wrongNodes are each of a right node with one number that doesn't belong there.
func wrongNodes() []api.Node {
	list := []api.Node{{}, {At: 5}, {Feature: 1}, {Value: 1}}
	for _, value := range []int{0, -1, 5, math.MinInt32, math.MaxInt32} {
		for _, n := range []int{1, 2, 3, 30, -1, 256, 1 << 32, least, greatest} {
			list = append(list, api.Node{Leaf: true, Value: value, Feature: n}, api.Node{Leaf: true, Value: value, At: n},
				api.Node{Leaf: true, Value: value, Left: n}, api.Node{Leaf: true, Value: value, Right: n})
		}
		list = append(list, api.Node{Leaf: true, Value: value, Feature: 2, At: -1, Left: 3, Right: 4})
	}
	for _, n := range wideNumbers() {
		list = append(list, leaf(n), fork(0, n, 1, 2), fork(3, n, 30, 29))
	}
	for _, n := range wrongFeatures() {
		list = append(list, fork(n, 0, 1, 2), fork(n, -1, 30, 29))
	}
	for _, n := range wrongSides() {
		list = append(list, fork(0, 0, n, 2), fork(3, -1, n, 30), fork(0, 0, 1, n), fork(3, -1, 30, n), fork(2, 5, n, n))
	}
	for _, n := range append(numbers(), wideNumbers()...) {
		if n != 0 {
			list = append(list, api.Node{Value: n, Feature: 2, At: -1, Left: 3, Right: 4})
		}
	}
	return list
}

// lowest32 is a number of 32 bits as they stand in a word: those below 0 count down from 2^32.
func lowest32(n int) uint64 {
	if n < 0 {
		n += math.MaxUint32 + 1
	}
	return uint64(n)
}

// wordOf is the chapter's word of a right node, as a sum of its fields.
func wordOf(n api.Node) uint64 {
	if n.Leaf {
		return byLeaf + lowest32(n.Value)
	}
	return lowest32(n.At) + byFeature*uint64(n.Feature) + byLeft*uint64(n.Left) + byRight*uint64(n.Right)
}

// nodeOf is the chapter's node of a word, digit by digit of its hexadecimal form.
func nodeOf(w uint64) (api.Node, bool) {
	number := int(w % byFeature)
	if number > math.MaxInt32 {
		number -= math.MaxUint32 + 1
	}
	if w >= byLeaf {
		return leafIf(number, w/byFeature == byLeaf/byFeature)
	}
	feature, gap := int(w/byFeature%16), w/byFeature/16%16
	left, right, top := int(w/byLeft%256), int(w/byRight%256), w/byRight/256
	if gap != 0 || top != 0 || feature > 3 || left < 1 || left > 30 || right < 1 || right > 30 {
		return api.Node{}, false
	}
	return fork(feature, number, left, right), true
}

func leafIf(value int, ok bool) (api.Node, bool) {
	if !ok {
		return api.Node{}, false
	}
	return leaf(value), true
}

func checkUnpack(t *testing.T, w uint64) {
	t.Helper()
	want, wantOK := nodeOf(w)
	if got, ok := Unpack(w); got != want || ok != wantOK {
		t.Errorf("Unpack(%#016x) = %+v, %v, not %+v, %v", w, got, ok, want, wantOK)
	}
}

func TestRightNodesAreRight(t *testing.T) {
	for _, n := range rightNodes() {
		if !Right(n) {
			t.Errorf("Right(%+v) = false", n)
		}
	}
}

func TestWrongNodesAreNotRight(t *testing.T) {
	for _, n := range wrongNodes() {
		if Right(n) {
			t.Errorf("Right(%+v) = true", n)
		}
	}
}

func TestRightAtItsEdges(t *testing.T) {
	for _, c := range []struct {
		n    api.Node
		want bool
	}{
		{leaf(0), true}, {leaf(math.MaxInt32), true}, {leaf(math.MinInt32), true},
		{leaf(math.MaxInt32 + 1), false}, {leaf(math.MinInt32 - 1), false},
		{api.Node{Leaf: true, Feature: 1}, false}, {api.Node{Leaf: true, At: 1}, false},
		{api.Node{Leaf: true, Left: 1}, false}, {api.Node{Leaf: true, Right: 1}, false},
		{fork(0, 0, 1, 1), true}, {fork(3, 0, 1, 1), true}, {fork(4, 0, 1, 1), false}, {fork(-1, 0, 1, 1), false},
		{fork(0, math.MaxInt32, 1, 1), true}, {fork(0, math.MinInt32, 1, 1), true},
		{fork(0, math.MaxInt32+1, 1, 1), false}, {fork(0, math.MinInt32-1, 1, 1), false},
		{fork(0, 0, 30, 1), true}, {fork(0, 0, 31, 1), false}, {fork(0, 0, 0, 1), false}, {fork(0, 0, -1, 1), false},
		{fork(0, 0, 1, 30), true}, {fork(0, 0, 1, 31), false}, {fork(0, 0, 1, 0), false}, {fork(0, 0, 1, -1), false},
		{api.Node{Value: 1, Left: 1, Right: 1}, false}, {api.Node{Value: -1, Left: 1, Right: 1}, false},
		{api.Node{}, false},
	} {
		if got := Right(c.n); got != c.want {
			t.Errorf("Right(%+v) = %v", c.n, got)
		}
	}
}

func TestPackPutsEachFieldAtItsBits(t *testing.T) {
	for _, n := range rightNodes() {
		if got, want := Pack(n), wordOf(n); got != want {
			t.Errorf("Pack(%+v) = %#016x, not %#016x", n, got, want)
		}
	}
}

func TestPackAtItsEdges(t *testing.T) {
	for _, c := range []struct {
		n    api.Node
		want uint64
	}{
		{leaf(0), 0x8000000000000000}, {leaf(1), 0x8000000000000001}, {leaf(-1), 0x80000000FFFFFFFF}, {leaf(-2), 0x80000000FFFFFFFE},
		{leaf(math.MaxInt32), 0x800000007FFFFFFF}, {leaf(math.MinInt32), 0x8000000080000000},
		{fork(0, 0, 1, 1), 0x0001010000000000}, {fork(1, 0, 1, 1), 0x0001010100000000}, {fork(3, 0, 1, 1), 0x0001010300000000},
		{fork(0, 1, 1, 1), 0x0001010000000001}, {fork(0, -1, 1, 1), 0x00010100FFFFFFFF},
		{fork(0, math.MaxInt32, 1, 1), 0x000101007FFFFFFF}, {fork(0, math.MinInt32, 1, 1), 0x0001010080000000},
		{fork(0, 0, 30, 1), 0x00011E0000000000}, {fork(0, 0, 1, 30), 0x001E010000000000}, {fork(3, -1, 30, 30), 0x001E1E03FFFFFFFF},
	} {
		if got := Pack(c.n); got != c.want {
			t.Errorf("Pack(%+v) = %#016x, not %#016x", c.n, got, c.want)
		}
	}
}

func TestWhatIsNotRightIsPackedToZero(t *testing.T) {
	for _, n := range wrongNodes() {
		if got := Pack(n); got != 0 {
			t.Errorf("Pack(%+v) = %#016x", n, got)
		}
	}
}

func TestWordsOfRightNodesAreUnpacked(t *testing.T) {
	for _, n := range rightNodes() {
		if got, ok := Unpack(wordOf(n)); got != n || !ok {
			t.Errorf("Unpack(%#016x) = %+v, %v, not %+v", wordOf(n), got, ok, n)
		}
	}
}

// All that the fields beside the number can hold, those that no right node has among them.
func TestUnpackOfEachFeatureLeftAndRight(t *testing.T) {
	for _, low := range []uint64{0, 0x80000000, 0xFFFFFFFF} {
		for fields := range uint64(16 * 256 * 256) {
			feature, left, right := fields%16, fields/16%256, fields/16/256
			checkUnpack(t, low+byFeature*feature+byLeft*left+byRight*right)
		}
	}
}

func TestWordsWithNumbersThatNoRightNodeHas(t *testing.T) {
	for _, w := range []uint64{
		0x0002010400000005, 0x0002010500000005, 0x0002010F00000005, // feature 4, 5, 15
		0x0002000000000005, 0x00021F0000000005, 0x0002200000000005, 0x0002FF0000000005, // left 0, 31, 32, 255
		0x0000010000000005, 0x001F010000000005, 0x0020010000000005, 0x00FF010000000005, // right 0, 31, 32, 255
		0x0000000000000005, 0x0000000300000005, 0x00000000FFFFFFFF, 0x001F1F0400000005,
	} {
		if got, ok := Unpack(w); ok || got != (api.Node{}) {
			t.Errorf("Unpack(%#016x) = %+v, %v", w, got, ok)
		}
	}
}

func TestWordsWithABitThatMustBeZero(t *testing.T) {
	for _, n := range rightNodes() {
		var bits []int
		if n.Leaf {
			bits = between(32, 62)
		} else {
			bits = append(between(36, 39), between(56, 63)...)
		}
		for _, bit := range bits {
			w := wordOf(n) + byBit(bit)
			if got, ok := Unpack(w); ok || got != (api.Node{}) {
				t.Errorf("Unpack(%#016x) = %+v, %v: bit %d is set", w, got, ok, bit)
			}
		}
	}
}

func TestUnpackOfZeroAndOfOnes(t *testing.T) {
	for _, w := range []uint64{0, allOnes, allOnes - byLeaf, allOnes - math.MaxUint32, 1, 0xFFFFFFFF} {
		if got, ok := Unpack(w); ok || got != (api.Node{}) {
			t.Errorf("Unpack(%#016x) = %+v, %v", w, got, ok)
		}
	}
}

func between(first, last int) []int {
	var list []int
	for n := first; n <= last; n++ {
		list = append(list, n)
	}
	return list
}

// byBit is 2^bit, by doubling.
func byBit(bit int) uint64 {
	w := uint64(1)
	for range bit {
		w += w
	}
	return w
}

// turned is w with one bit turned, by adding it or taking it away.
func turned(w uint64, bit int) uint64 {
	if w/byBit(bit)%2 == 1 {
		return w - byBit(bit)
	}
	return w + byBit(bit)
}

func TestWhatIsPackedIsUnpacked(t *testing.T) {
	for _, n := range rightNodes() {
		if got, ok := Unpack(Pack(n)); got != n || !ok {
			t.Errorf("%+v is packed to %#016x, and that unpacked to %+v, %v", n, Pack(n), got, ok)
		}
	}
}

func TestATurnedBitIsAnotherNodeOrNone(t *testing.T) {
	for _, n := range rightNodes() {
		for bit := range 64 {
			w := turned(Pack(n), bit)
			checkUnpack(t, w)
			got, ok := Unpack(w)
			if ok && (got == n || !Right(got) || Pack(got) != w) {
				t.Errorf("%+v with bit %d turned is unpacked to %+v, packed to %#016x", n, bit, got, Pack(got))
			}
		}
	}
}

func TestTwoTurnedBits(t *testing.T) {
	for _, n := range []api.Node{leaf(0), leaf(-1), fork(2, -1, 3, 4), fork(0, 5, 1, 1), fork(3, math.MinInt32, 30, 30)} {
		for first := range 64 {
			for second := range first {
				checkUnpack(t, turned(turned(Pack(n), first), second))
			}
		}
	}
}

func TestTheChaptersRuns(t *testing.T) {
	if got := Pack(api.Node{Leaf: true, Value: -1}); got != 0x80000000FFFFFFFF {
		t.Errorf("Pack of leaf -1 = %#016x", got)
	}
	if got := Pack(api.Node{Feature: 2, At: -1, Left: 3, Right: 4}); got != 0x00040302FFFFFFFF {
		t.Errorf("Pack of feature 2, at -1, left 3, right 4 = %#016x", got)
	}
	if got, ok := Unpack(0); ok || got != (api.Node{}) {
		t.Errorf("Unpack(0) = %+v, %v", got, ok)
	}
}
