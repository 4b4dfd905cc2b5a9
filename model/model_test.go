package model

import (
	"math"
	"slices"
	"testing"

	"copse/api"
	"copse/node"
	"copse/tree"
)

const (
	least    = math.MinInt64
	greatest = math.MaxInt64
)

func leaf(value int) uint64 { return node.Pack(api.Node{Leaf: true, Value: value}) }

func fork(feature, at, left, right int) uint64 {
	return node.Pack(api.Node{Feature: feature, At: at, Left: left, Right: right})
}

// stump is a tree of one fork.
func stump(class, feature, at, low, high int) api.Tree {
	return api.Tree{Class: class, Nodes: []uint64{fork(feature, at, 1, 2), leaf(low), leaf(high)}}
}

func lone(class, value int) api.Tree {
	return api.Tree{Class: class, Nodes: []uint64{leaf(value)}}
}

// run is the chapter's model.
func run() api.Model {
	return api.Model{Dim: 1, Classes: 1, Bias: [3]int{3}, Trees: []api.Tree{stump(0, 0, 5, 10, 20)}}
}

// mixed has all features and classes; Ats come several times, in one tree and in several, of one feature and of several.
func mixed() api.Model {
	return api.Model{Dim: 4, Classes: 3, Bias: [3]int{100, -200, 7}, Trees: []api.Tree{
		stump(2, 3, 8, 1, 2),
		{Class: 0, Nodes: []uint64{fork(2, 9, 4, 1), fork(0, 3, 2, 3), fork(2, 9, 5, 6), leaf(10), fork(1, -7, 7, 8), leaf(20), leaf(30), leaf(40), leaf(50)}},
		lone(0, 1000),
		stump(1, 2, -6, -5, 5),
		stump(0, 0, 3, -3, 3),
		{Class: 2, Nodes: []uint64{fork(0, 9, 1, 2), fork(0, -9, 3, 4), fork(2, 9, 5, 6), leaf(60), leaf(70), leaf(80), leaf(90)}},
	}}
}

// constant has a lone leaf for each tree: it is right for every Dim.
func constant(dim, classes, trees int) api.Model {
	m := api.Model{Dim: dim, Classes: classes}
	for i := range trees {
		m.Trees = append(m.Trees, lone(i%max(classes, 1), i+1))
	}
	return m
}

// cloned shares nothing with m.
func cloned(m api.Model) api.Model {
	m.Trees = slices.Clone(m.Trees)
	for i := range m.Trees {
		m.Trees[i].Nodes = slices.Clone(m.Trees[i].Nodes)
	}
	return m
}

func alike(a, b api.Model) bool {
	return a.Dim == b.Dim && a.Classes == b.Classes && a.Bias == b.Bias && slices.EqualFunc(a.Trees, b.Trees, func(s, t api.Tree) bool {
		return s.Class == t.Class && slices.Equal(s.Nodes, t.Nodes)
	})
}

// dice tell numbers by a rule of their own, so that each run of the tests makes the same models.
type dice struct{ state uint64 }

func (d *dice) below(n int) int {
	d.state = d.state*6364136223846793005 + 1442695040888963407
	return int(d.state>>33) % n
}

// grownTree puts a fork in the place of some leaf, so many times.
func grownTree(d *dice, dim, forks int) []uint64 {
	nodes := []api.Node{{Leaf: true, Value: d.below(200) - 100}}
	for range forks {
		at := d.below(len(nodes))
		for !nodes[at].Leaf {
			at = (at + 1) % len(nodes)
		}
		count := len(nodes)
		nodes[at] = api.Node{Feature: d.below(dim), At: d.below(13) - 6, Left: count, Right: count + 1}
		if d.below(2) == 0 {
			nodes[at].Left, nodes[at].Right = count+1, count
		}
		nodes = append(nodes, api.Node{Leaf: true, Value: d.below(200) - 100}, api.Node{Leaf: true, Value: d.below(200) - 100})
	}
	var l []uint64
	for _, n := range nodes {
		l = append(l, node.Pack(n))
	}
	return l
}

func grown(d *dice) api.Model {
	m := api.Model{Dim: 1 + d.below(4), Classes: 1 + d.below(3)}
	for class := range m.Classes {
		m.Bias[class] = d.below(100) - 50
	}
	for range d.below(9) {
		m.Trees = append(m.Trees, api.Tree{Class: d.below(m.Classes), Nodes: grownTree(d, m.Dim, d.below(16))})
	}
	return m
}

func rightModels() []api.Model {
	list := []api.Model{run(), mixed(), constant(1, 1, 0), constant(4, 3, 8), constant(2, 2, 3)}
	d := &dice{8}
	for range 150 {
		list = append(list, grown(d))
	}
	return list
}

// wrongModels are each of a right model with one thing that doesn't belong there.
func wrongModels() map[string]api.Model {
	list := map[string]api.Model{"zero": {}}
	add := func(name string, change func(m *api.Model)) {
		m := mixed()
		change(&m)
		list[name] = m
	}
	add("dim 0", func(m *api.Model) { m.Dim = 0 })
	add("dim -1", func(m *api.Model) { m.Dim = -1 })
	add("dim 5", func(m *api.Model) { m.Dim = 5 })
	add("dim below a feature", func(m *api.Model) { m.Dim = 3 })
	add("classes 0", func(m *api.Model) { m.Classes = 0 })
	add("classes -1", func(m *api.Model) { m.Classes = -1 })
	add("classes 4", func(m *api.Model) { m.Classes = 4 })
	add("classes below a tree's", func(m *api.Model) { m.Classes, m.Bias[2] = 2, 0 })
	add("great bias", func(m *api.Model) { m.Bias[2] = math.MaxInt32 + 1 })
	add("small bias", func(m *api.Model) { m.Bias[0] = math.MinInt32 - 1 })
	add("bias of no class", func(m *api.Model) { m.Trees, m.Classes = nil, 2 })
	add("nine trees", func(m *api.Model) { m.Trees = append(m.Trees, lone(0, 1), lone(0, 1), lone(0, 1)) })
	add("class -1", func(m *api.Model) { m.Trees[3].Class = -1 })
	add("class 3", func(m *api.Model) { m.Trees[5].Class = 3 })
	add("no nodes", func(m *api.Model) { m.Trees[0].Nodes = nil })
	add("no tree", func(m *api.Model) { m.Trees[5].Nodes = m.Trees[5].Nodes[:6] })
	return list
}

// checkRight asks of a model that is changed from mixed.
func checkRight(t *testing.T, what string, want bool, change func(m *api.Model)) {
	t.Helper()
	m := mixed()
	change(&m)
	if got := Right(m); got != want {
		t.Errorf("%s: Right(%+v) = %v", what, m, got)
	}
}

// valueOf goes down a right tree from the node at the place at.
func valueOf(l []uint64, at int, p api.Point) int {
	n, _ := node.Unpack(l[at])
	if n.Leaf {
		return n.Value
	}
	if p[n.Feature] > n.At {
		return valueOf(l, n.Right, p)
	}
	return valueOf(l, n.Left, p)
}

// sums are those of all classes at p, tree by tree.
func sums(m api.Model, p api.Point) []int {
	list := slices.Clone(m.Bias[:m.Classes])
	for _, t := range m.Trees {
		list[t.Class] += valueOf(t.Nodes, 0, p)
	}
	return list
}

// isThreshold asks all nodes of a right model.
func isThreshold(m api.Model, feature, at int) bool {
	for _, t := range m.Trees {
		for _, w := range t.Nodes {
			if n, _ := node.Unpack(w); !n.Leaf && n.Feature == feature && n.At == at {
				return true
			}
		}
	}
	return false
}

func somePoints(d *dice, count int) []api.Point {
	list := []api.Point{{}, {least, least, least, least}, {greatest, greatest, greatest, greatest}, {least, greatest, least, greatest}}
	for range count {
		list = append(list, api.Point{d.below(17) - 8, d.below(17) - 8, d.below(17) - 8, d.below(17) - 8})
	}
	return list
}

func TestChapterRuns(t *testing.T) {
	m := run()
	if got := Eval(m, 0, api.Point{5}); got != 13 {
		t.Errorf("Eval of (5) = %d", got)
	}
	if got := Eval(m, 0, api.Point{6}); got != 23 {
		t.Errorf("Eval of (6) = %d", got)
	}
	if got := Thresholds(m, 0); !slices.Equal(got, []int{5}) {
		t.Errorf("Thresholds(0) = %v", got)
	}
	if !Right(m) || Size(m) != 3 || Best(m, api.Point{5}) != 0 {
		t.Error(Right(m), Size(m), Best(m, api.Point{5}))
	}
}

func TestRightModelsAreRight(t *testing.T) {
	for _, m := range rightModels() {
		if !Right(m) {
			t.Errorf("Right(%+v) = false", m)
		}
	}
}

func TestWrongModelsAreNotRight(t *testing.T) {
	for name, m := range wrongModels() {
		if Right(m) {
			t.Errorf("%s: Right(%+v) = true", name, m)
		}
	}
}

func TestRightDims(t *testing.T) {
	for _, dim := range []int{least, least + 1, -4, -1, 0, 5, 6, 15, 16, 1 << 32, 1<<32 + 1, greatest} {
		if m := constant(dim, 1, 1); Right(m) {
			t.Errorf("Right of dim %d", dim)
		}
		if m := constant(dim, 3, 0); Right(m) {
			t.Errorf("Right of dim %d without trees", dim)
		}
	}
	for dim := 1; dim <= api.MaxDim; dim++ {
		if !Right(constant(dim, 1, 1)) || !Right(constant(dim, 3, 0)) {
			t.Errorf("dim %d isn't right", dim)
		}
	}
}

func TestRightClasses(t *testing.T) {
	for _, classes := range []int{least, least + 1, -3, -1, 0, 4, 5, 255, 1 << 32, 1<<32 + 1, greatest} {
		if Right(api.Model{Dim: 1, Classes: classes}) || Right(api.Model{Dim: 1, Classes: classes, Trees: []api.Tree{lone(0, 1)}}) {
			t.Errorf("Right of %d classes", classes)
		}
	}
	for classes := 1; classes <= api.MaxClasses; classes++ {
		if !Right(constant(1, classes, 8)) || !Right(constant(4, classes, 0)) {
			t.Errorf("%d classes aren't right", classes)
		}
	}
}

func TestRightBiases(t *testing.T) {
	for class := range api.MaxClasses {
		for _, bias := range []int{math.MinInt32, math.MinInt32 + 1, -1, 0, 1, math.MaxInt32 - 1, math.MaxInt32} {
			checkRight(t, "bias within", true, func(m *api.Model) { m.Bias[class] = bias })
		}
		for _, bias := range []int{math.MinInt32 - 1, math.MaxInt32 + 1, math.MaxUint32, math.MaxUint32 + 1, -math.MaxUint32 - 1, least, greatest} {
			checkRight(t, "bias beyond", false, func(m *api.Model) { m.Bias[class] = bias })
		}
	}
}

func TestRightBiasesBehindTheClasses(t *testing.T) {
	for classes := 1; classes <= api.MaxClasses; classes++ {
		for class := range api.MaxClasses {
			for _, bias := range []int{math.MinInt32, -1, 1, math.MaxInt32, greatest, least} {
				m := constant(2, classes, 8)
				m.Bias[class] = bias
				want := class < classes && bias >= math.MinInt32 && bias <= math.MaxInt32
				if got := Right(m); got != want {
					t.Errorf("Right of bias %d at class %d of %d = %v", bias, class, classes, got)
				}
			}
		}
	}
}

func TestRightNumbersOfTrees(t *testing.T) {
	for count := range 2*api.MaxTrees + 2 {
		if got := Right(constant(1, 2, count)); got != (count <= api.MaxTrees) {
			t.Errorf("Right of %d trees = %v", count, got)
		}
	}
	m := constant(1, 1, 0)
	m.Trees = []api.Tree{}
	if !Right(m) {
		t.Error("an empty list of trees isn't right")
	}
	if Right(constant(1, 1, 100000)) {
		t.Error("very many trees are right")
	}
	// What stands in the room behind the trees' length isn't there.
	m = constant(1, 1, 100)
	m.Trees[8].Class = -1
	m.Trees = m.Trees[:8]
	if !Right(m) {
		t.Error("the room behind the trees is asked")
	}
}

func TestRightClassesOfTrees(t *testing.T) {
	for classes := 1; classes <= api.MaxClasses; classes++ {
		for _, class := range []int{least, -3, -2, -1, 0, 1, 2, 3, 4, 255, 256, 1 << 32, greatest} {
			for place := range 8 {
				m := constant(1, classes, 8)
				m.Trees[place].Class = class
				if got := Right(m); got != (class >= 0 && class < classes) {
					t.Errorf("Right of class %d of %d in tree %d = %v", class, classes, place, got)
				}
			}
		}
	}
}

func TestTreesAreRightForTheModelsDim(t *testing.T) {
	for dim := 1; dim <= api.MaxDim; dim++ {
		for feature := range api.MaxDim {
			for place := range 8 {
				m := constant(dim, 2, 8)
				m.Trees[place] = stump(1, feature, -4, 1, 2)
				if !tree.Right(m.Trees[place].Nodes, api.MaxDim) {
					t.Fatal("the stump should be right for MaxDim")
				}
				if got := Right(m); got != (feature < dim) {
					t.Errorf("Right of feature %d in tree %d of dim %d = %v", feature, place, dim, got)
				}
			}
		}
	}
}

func TestRowsThatAreNoTrees(t *testing.T) {
	for name, row := range map[string][]uint64{
		"nil":           nil,
		"empty":         {},
		"zero":          {0},
		"ones":          {math.MaxUint64},
		"no node":       {fork(0, 5, 1, 2), leaf(1), 7},
		"two leaves":    {leaf(1), leaf(2)},
		"a side short":  {fork(0, 5, 1, 2), leaf(1)},
		"sides alike":   {fork(0, 5, 1, 1), leaf(1)},
		"round":         {fork(0, 5, 1, 2), fork(0, 6, 1, 2), leaf(1)},
		"leaf too many": {fork(0, 5, 1, 2), leaf(1), leaf(2), leaf(3)},
		"32 nodes":      append(grownTree(&dice{3}, 4, 15), leaf(1)),
	} {
		for place := range mixed().Trees {
			checkRight(t, name, false, func(m *api.Model) { m.Trees[place].Nodes = row })
		}
	}
	for place := range mixed().Trees {
		checkRight(t, "31 nodes", true, func(m *api.Model) { m.Trees[place].Nodes = grownTree(&dice{3}, 4, 15) })
	}
}

func TestEvalOfEachClass(t *testing.T) {
	m := mixed()
	for _, c := range []struct {
		p    api.Point
		want [3]int
	}{
		{api.Point{0, 0, 0, 0}, [3]int{100 + 50 + 1000 - 3, -200 + 5, 7 + 1 + 70}},
		{api.Point{3, -7, 9, 8}, [3]int{100 + 40 + 1000 - 3, -200 + 5, 7 + 1 + 70}},
		{api.Point{4, -6, 10, 9}, [3]int{100 + 10 + 1000 + 3, -200 + 5, 7 + 2 + 70}},
		{api.Point{3, 0, 10, 9}, [3]int{100 + 30 + 1000 - 3, -200 + 5, 7 + 2 + 70}},
		{api.Point{-9, 0, -6, 0}, [3]int{100 + 50 + 1000 - 3, -200 - 5, 7 + 1 + 60}},
		{api.Point{10, 0, -5, 0}, [3]int{100 + 50 + 1000 + 3, -200 + 5, 7 + 1 + 80}},
		{api.Point{10, 0, 10, 0}, [3]int{100 + 10 + 1000 + 3, -200 + 5, 7 + 1 + 90}},
		{api.Point{least, least, least, least}, [3]int{100 + 40 + 1000 - 3, -200 - 5, 7 + 1 + 60}},
		{api.Point{greatest, greatest, greatest, greatest}, [3]int{100 + 10 + 1000 + 3, -200 + 5, 7 + 2 + 90}},
	} {
		for class, want := range c.want {
			if got := Eval(m, class, c.p); got != want {
				t.Errorf("Eval(%d, %v) = %d, not %d", class, c.p, got, want)
			}
		}
	}
}

func TestEvalIsTheSumOfTheClass(t *testing.T) {
	d := &dice{88}
	for _, m := range rightModels() {
		for _, p := range somePoints(d, 30) {
			for class, want := range sums(m, p) {
				if got := Eval(m, class, p); got != want {
					t.Errorf("Eval(%+v, %d, %v) = %d, not %d", m, class, p, got, want)
				}
			}
		}
	}
}

func TestEvalOfClassesThatAreNotThere(t *testing.T) {
	for classes := 1; classes <= api.MaxClasses; classes++ {
		m := constant(2, classes, 8)
		for _, class := range []int{least, least + 1, -3, -2, -1, classes, classes + 1, 3, 4, 256, 1 << 32, greatest - 1, greatest} {
			if got := Eval(m, class, api.Point{}); got != 0 {
				t.Errorf("Eval of class %d of %d = %d", class, classes, got)
			}
		}
	}
}

func TestEvalOfClassesWithoutTrees(t *testing.T) {
	m := api.Model{Dim: 1, Classes: 3, Bias: [3]int{-8, 9, 0}, Trees: []api.Tree{stump(2, 0, 5, 10, 20)}}
	for class, want := range []int{-8, 9, 10} {
		if got := Eval(m, class, api.Point{5}); got != want {
			t.Errorf("Eval(%d) = %d, not %d", class, got, want)
		}
	}
	m.Trees = nil
	for class, want := range []int{-8, 9, 0} {
		if got := Eval(m, class, api.Point{5}); got != want {
			t.Errorf("Eval(%d) without trees = %d, not %d", class, got, want)
		}
	}
}

func TestEvalAtTheEdgesOf32Bits(t *testing.T) {
	for _, n := range []int{math.MinInt32, math.MaxInt32} {
		m := api.Model{Dim: 1, Classes: 1, Bias: [3]int{n}}
		for range api.MaxTrees {
			m.Trees = append(m.Trees, lone(0, n))
		}
		if got := Eval(m, 0, api.Point{}); got != 9*n {
			t.Errorf("Eval of nine times %d = %d", n, got)
		}
		if got := Best(m, api.Point{}); got != 0 {
			t.Errorf("Best of nine times %d = %d", n, got)
		}
	}
}

func TestNothingComesOfWrongModels(t *testing.T) {
	for name, m := range wrongModels() {
		for _, p := range []api.Point{{}, {5, -7, 9, 8}, {greatest, least, greatest, least}} {
			for class := -1; class <= 4; class++ {
				if got := Eval(m, class, p); got != 0 {
					t.Errorf("%s: Eval(%d, %v) = %d", name, class, p, got)
				}
			}
			if got := Best(m, p); got != -1 {
				t.Errorf("%s: Best(%v) = %d", name, p, got)
			}
		}
		for feature := -1; feature <= 5; feature++ {
			if got := Thresholds(m, feature); len(got) != 0 {
				t.Errorf("%s: Thresholds(%d) = %v", name, feature, got)
			}
		}
	}
}

// All orders of three numbers, ties among them, in models of one, two and three classes.
func TestBestByBiases(t *testing.T) {
	for classes := 1; classes <= api.MaxClasses; classes++ {
		for number := range 5 * 5 * 5 {
			m := api.Model{Dim: 1, Classes: classes}
			for class := range classes {
				m.Bias[class] = number%5 - 2
				number /= 5
			}
			want := slices.Index(m.Bias[:classes], slices.Max(m.Bias[:classes]))
			if got := Best(m, api.Point{}); got != want {
				t.Errorf("Best of %v = %d, not %d", m.Bias[:classes], got, want)
			}
		}
	}
}

func TestBestBySums(t *testing.T) {
	m := api.Model{Dim: 1, Classes: 3, Bias: [3]int{0, 1, 2}, Trees: []api.Tree{stump(0, 0, 0, 9, 1), stump(1, 0, 10, 1, 5), stump(2, 0, 20, 0, 8)}}
	for _, c := range []struct{ n, want int }{{least, 0}, {0, 0}, {1, 1}, {10, 1}, {11, 1}, {20, 1}, {21, 2}, {greatest, 2}} {
		if got := Best(m, api.Point{c.n}); got != c.want {
			t.Errorf("Best of %d = %d, not %d", c.n, got, c.want)
		}
	}
	d := &dice{5}
	for _, m := range rightModels() {
		for _, p := range somePoints(d, 30) {
			list := sums(m, p)
			if got, want := Best(m, p), slices.Index(list, slices.Max(list)); got != want {
				t.Errorf("Best(%+v, %v) = %d, not %d", m, p, got, want)
			}
		}
	}
}

// The classes behind the last have a bias of 0, which is greater than any sum here.
func TestBestOfSumsBelowZero(t *testing.T) {
	for _, c := range []struct {
		classes int
		bias    [3]int
		want    int
	}{
		{1, [3]int{-5}, 0}, {1, [3]int{math.MinInt32}, 0}, {2, [3]int{-5, -4}, 1}, {2, [3]int{-4, -5}, 0}, {2, [3]int{-4, -4}, 0},
		{2, [3]int{math.MinInt32, math.MinInt32}, 0}, {3, [3]int{-3, -2, -1}, 2}, {3, [3]int{-3, -1, -1}, 1}, {3, [3]int{-1, -2, -1}, 0},
	} {
		if got := Best(api.Model{Dim: 4, Classes: c.classes, Bias: c.bias}, api.Point{}); got != c.want {
			t.Errorf("Best of %v = %d, not %d", c.bias[:c.classes], got, c.want)
		}
	}
}

func TestSizeOfRightModels(t *testing.T) {
	for _, c := range []struct {
		m    api.Model
		want int
	}{{run(), 3}, {mixed(), 3 + 9 + 1 + 3 + 3 + 7}, {constant(1, 1, 0), 0}, {constant(4, 3, 8), 8}} {
		if got := Size(c.m); got != c.want {
			t.Errorf("Size(%+v) = %d, not %d", c.m, got, c.want)
		}
	}
	var full api.Model
	for range api.MaxTrees {
		full.Trees = append(full.Trees, api.Tree{Nodes: grownTree(&dice{4}, 4, 15)})
	}
	full.Dim, full.Classes = 4, 1
	if got := Size(full); !Right(full) || got != api.MaxTrees*api.MaxNodes {
		t.Errorf("Size of the greatest model = %d", got)
	}
}

func TestSizeOfWrongModels(t *testing.T) {
	for _, c := range []struct {
		name string
		m    api.Model
		want int
	}{
		{"zero", api.Model{}, 0},
		{"no nodes", api.Model{Trees: []api.Tree{{}, {Class: 9}, {Nodes: []uint64{}}}}, 0},
		{"no words of nodes", api.Model{Trees: []api.Tree{{Nodes: []uint64{7, 8}}, {}, {Nodes: []uint64{0}}}}, 3},
		{"classes of none", api.Model{Dim: -1, Classes: 99, Trees: []api.Tree{lone(-5, 1), lone(99, 1)}}, 2},
		{"many trees", constant(1, 1, 100), 100},
		{"a long row", api.Model{Dim: 1, Classes: 1, Trees: []api.Tree{{Nodes: make([]uint64, 1000)}, lone(0, 1)}}, 1001},
		{"room behind", api.Model{Trees: []api.Tree{{Nodes: make([]uint64, 2, 50)}}}, 2},
	} {
		if got := Size(c.m); got != c.want {
			t.Errorf("%s: Size = %d, not %d", c.name, got, c.want)
		}
	}
	for name, m := range wrongModels() {
		want := 0
		for _, tree := range m.Trees {
			want += len(tree.Nodes)
		}
		if got := Size(m); got != want {
			t.Errorf("%s: Size = %d, not %d", name, got, want)
		}
	}
}

func TestThresholdsOfEachFeature(t *testing.T) {
	m := mixed()
	for feature, want := range [][]int{{-9, 3, 9}, {-7}, {-6, 9}, {8}} {
		if got := Thresholds(m, feature); !slices.Equal(got, want) {
			t.Errorf("Thresholds(%d) = %v, not %v", feature, got, want)
		}
	}
	for _, feature := range []int{least, -4, -1, 4, 5, 15, 16, 17, 256, 1 << 32, 1<<32 + 2, greatest} {
		if got := Thresholds(m, feature); len(got) != 0 {
			t.Errorf("Thresholds(%d) = %v", feature, got)
		}
	}
}

func TestThresholdsOfFeaturesThatNoTreeAsks(t *testing.T) {
	m := api.Model{Dim: 4, Classes: 1, Trees: []api.Tree{stump(0, 2, 5, 1, 2), lone(0, 77)}}
	for feature, want := range [][]int{nil, nil, {5}, nil} {
		if got := Thresholds(m, feature); !slices.Equal(got, want) {
			t.Errorf("Thresholds(%d) = %v, not %v", feature, got, want)
		}
	}
	// A leaf's number is no threshold of feature 0.
	if got := Thresholds(constant(4, 1, 8), 0); len(got) != 0 {
		t.Errorf("Thresholds of leaves = %v", got)
	}
	if got := Thresholds(constant(1, 1, 0), 0); len(got) != 0 {
		t.Errorf("Thresholds of no trees = %v", got)
	}
}

func TestThresholdsAtTheEdgesOf32Bits(t *testing.T) {
	ats := []int{5, math.MaxInt32, math.MinInt32, -1, 0, math.MinInt32 + 1, math.MaxInt32 - 1, 1}
	for feature := range api.MaxDim {
		m := api.Model{Dim: 4, Classes: 1}
		for _, at := range ats {
			m.Trees = append(m.Trees, stump(0, feature, at, 1, 2))
		}
		want := []int{math.MinInt32, math.MinInt32 + 1, -1, 0, 1, 5, math.MaxInt32 - 1, math.MaxInt32}
		if got := Thresholds(m, feature); !slices.Equal(got, want) {
			t.Errorf("Thresholds(%d) = %v, not %v", feature, got, want)
		}
	}
}

func TestThresholdsThatComeSeveralTimes(t *testing.T) {
	inOne := api.Tree{Nodes: []uint64{fork(0, 5, 1, 2), fork(0, 5, 3, 4), fork(0, 5, 5, 6), leaf(1), leaf(2), leaf(3), leaf(4)}}
	for _, trees := range [][]api.Tree{
		{inOne},
		{stump(0, 0, 5, 1, 2), stump(0, 0, 5, 3, 4)},
		{stump(0, 0, 5, 1, 2), stump(1, 0, 5, 3, 4), lone(0, 5)},
		{inOne, stump(1, 0, 5, 1, 2), inOne, inOne, inOne, inOne, inOne, inOne},
		{stump(0, 0, 5, 1, 2), stump(0, 1, 6, 1, 2), inOne},
	} {
		if got := Thresholds(api.Model{Dim: 2, Classes: 2, Trees: trees}, 0); !slices.Equal(got, []int{5}) {
			t.Errorf("Thresholds of %+v = %v", trees, got)
		}
	}
	apart := []api.Tree{stump(0, 0, 9, 1, 2), stump(0, 0, -9, 1, 2), inOne, stump(0, 0, 9, 1, 2), stump(0, 0, -9, 1, 2)}
	if got := Thresholds(api.Model{Dim: 1, Classes: 1, Trees: apart}, 0); !slices.Equal(got, []int{-9, 5, 9}) {
		t.Errorf("Thresholds that come apart = %v", got)
	}
}

func TestThresholdsAreTheAtsRising(t *testing.T) {
	for _, m := range rightModels() {
		for feature := -1; feature <= api.MaxDim; feature++ {
			var want []int
			for at := -10; at <= 10; at++ {
				if isThreshold(m, feature, at) {
					want = append(want, at)
				}
			}
			if got := Thresholds(m, feature); !slices.Equal(got, want) {
				t.Errorf("Thresholds(%+v, %d) = %v, not %v", m, feature, got, want)
			}
		}
	}
}

func TestPointsAtThresholds(t *testing.T) {
	for feature := range api.MaxDim {
		for _, at := range []int{math.MinInt32, -6, -1, 0, 1, 5, math.MaxInt32} {
			m := api.Model{Dim: 4, Classes: 2, Bias: [3]int{3, 18}, Trees: []api.Tree{stump(0, feature, at, 10, 20)}}
			for _, n := range []int{least, at - 1, at, at + 1, greatest} {
				// All other features would send the point to the other side.
				want, best, others := 13, 1, greatest
				if n > at {
					want, best, others = 23, 0, least
				}
				p := api.Point{others, others, others, others}
				p[feature] = n
				if got := Eval(m, 0, p); got != want {
					t.Errorf("Eval of feature %d at %d of %v = %d, not %d", feature, at, p, got, want)
				}
				if got := Best(m, p); got != best {
					t.Errorf("Best of feature %d at %d of %v = %d, not %d", feature, at, p, got, best)
				}
			}
		}
	}
}

// edgeOf is the least or the greatest number that is above of the same thresholds as n.
func edgeOf(thresholds []int, n int, up bool) int {
	lo, hi := least, greatest
	for _, at := range thresholds {
		if n > at {
			lo = max(lo, at+1)
		} else {
			hi = min(hi, at)
		}
	}
	if up {
		return hi
	}
	return lo
}

// P8.4: moving each feature as far as no threshold is crossed changes no sum.
func TestEvalHangsOnThresholdsAlone(t *testing.T) {
	d := &dice{84}
	for _, m := range rightModels() {
		for _, p := range somePoints(d, 20) {
			want := sums(m, p)
			for sides := range 1 << api.MaxDim {
				q := p
				for feature := range q {
					q[feature] = edgeOf(Thresholds(m, feature), p[feature], sides>>feature&1 == 1)
				}
				for class := range m.Classes {
					if got := Eval(m, class, q); got != want[class] {
						t.Errorf("Eval(%+v, %d, %v) = %d, but %d at %v", m, class, q, got, want[class], p)
					}
				}
			}
		}
	}
}

// No threshold is told that parts nothing: in a model of stumps each one changes a sum.
func TestEachThresholdOfStumpsChangesASum(t *testing.T) {
	m := api.Model{Dim: 4, Classes: 2, Trees: []api.Tree{stump(0, 0, 5, 1, 2), stump(1, 0, 7, 4, 8), stump(0, 1, -5, 16, 32), stump(1, 3, 0, 64, 128)}}
	for feature := range api.MaxDim {
		for n := -20; n < 20; n++ {
			var low, high api.Point
			low[feature], high[feature] = n, n+1
			isParted := Eval(m, 0, low) != Eval(m, 0, high) || Eval(m, 1, low) != Eval(m, 1, high)
			if isParted != slices.Contains(Thresholds(m, feature), n) {
				t.Errorf("feature %d between %d and %d: parted is %v, thresholds are %v", feature, n, n+1, isParted, Thresholds(m, feature))
			}
		}
	}
}

// roomy is m with words and trees in the room behind its lists.
func roomy(m api.Model) api.Model {
	m = cloned(m)
	for i, t := range m.Trees {
		m.Trees[i].Nodes = append(t.Nodes, leaf(1), 3, fork(0, 1, 1, 2))[:len(t.Nodes)]
	}
	m.Trees = append(m.Trees, stump(0, 0, 1, 2, 3), api.Tree{Class: 7})[:len(m.Trees)]
	return m
}

// withRoom is m with its lists as long as their room, so that what stands there is held too.
func withRoom(m api.Model) api.Model {
	m.Trees = slices.Clone(m.Trees[:cap(m.Trees)])
	for i, t := range m.Trees {
		m.Trees[i].Nodes = t.Nodes[:cap(t.Nodes)]
	}
	return m
}

func TestNothingHandedInIsChanged(t *testing.T) {
	list := rightModels()
	for _, m := range wrongModels() {
		list = append(list, m)
	}
	for _, plain := range list {
		m := roomy(plain)
		before := cloned(withRoom(m))
		Right(m)
		Size(m)
		Best(m, api.Point{1, -1, 2, 0})
		for n := -1; n <= 4; n++ {
			Eval(m, n, api.Point{1, -1, 2, 0})
			Thresholds(m, n)
		}
		if !alike(withRoom(m), before) || !alike(m, plain) {
			t.Errorf("%+v is now %+v", plain, m)
		}
	}
}

func TestThresholdsAreNewMemory(t *testing.T) {
	for _, plain := range rightModels() {
		m := roomy(plain)
		before := cloned(withRoom(m))
		for feature := range api.MaxDim {
			first, second := Thresholds(m, feature), Thresholds(m, feature)
			kept := slices.Clone(second)
			// Writing over one answer and the room behind it must not be seen in another one, nor in the model.
			for i := range first[:cap(first)] {
				first[:cap(first)][i] = 99
			}
			if !slices.Equal(second, kept) || !slices.Equal(Thresholds(m, feature), kept) {
				t.Errorf("Thresholds(%+v, %d): %v, then %v and %v", m, feature, kept, second, Thresholds(m, feature))
			}
		}
		if !alike(withRoom(m), before) {
			t.Errorf("%+v is now %+v", plain, m)
		}
	}
}
