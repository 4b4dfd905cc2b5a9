package text

import (
	"fmt"
	"maps"
	"math"
	"regexp"
	"slices"
	"strconv"
	"strings"
	"testing"

	"copse/api"
	"copse/model"
	"copse/node"
)

const (
	least    = math.MinInt32
	greatest = math.MaxInt32
)

// runText is the chapter's.
const runText = "forest 1 1\nbias 0.01171875\ntree 0 3\nif 0 <= 0.01953125 then 1 else 2\nleaf 0.0390625\nleaf 0.078125\n"

// mixedText is that of mixed.
const mixedText = "forest 4 3\nbias 0.99609375 -8388608 8388607.99609375\n" +
	"tree 2 1\nleaf -0.00390625\n" +
	"tree 0 5\nif 3 <= -1.5 then 2 else 1\nif 0 <= 8388607.99609375 then 3 else 4\nleaf 0\nleaf -8388608\nleaf 8388607.99609375\n" +
	"tree 1 3\nif 2 <= -8388608 then 1 else 2\nleaf 10\nleaf -100.25\n"

func leaf(value int) uint64 { return node.Pack(api.Node{Leaf: true, Value: value}) }

func fork(feature, at, left, right int) uint64 {
	return node.Pack(api.Node{Feature: feature, At: at, Left: left, Right: right})
}

// stump is a tree of one fork.
func stump(class, feature, at, low, high int) api.Tree {
	return api.Tree{Class: class, Nodes: []uint64{fork(feature, at, 1, 2), leaf(low), leaf(high)}}
}

func lone(class, value int) api.Tree {
	return api.Tree{Class: class, Nodes: []uint64{leaf(value)}}
}

// run is chapter 8's model.
func run() api.Model {
	return api.Model{Dim: 1, Classes: 1, Bias: [3]int{3}, Trees: []api.Tree{stump(0, 0, 5, 10, 20)}}
}

func mixed() api.Model {
	return api.Model{Dim: 4, Classes: 3, Bias: [3]int{255, least, greatest}, Trees: []api.Tree{
		lone(2, -1),
		{Class: 0, Nodes: []uint64{fork(3, -384, 2, 1), fork(0, greatest, 3, 4), leaf(0), leaf(least), leaf(greatest)}},
		stump(1, 2, least, 2560, -25664),
	}}
}

// dice tell numbers by a rule of their own, so that each run of the tests makes the same models.
type dice struct{ state uint64 }

func (d *dice) below(n int) int {
	d.state = d.state*6364136223846793005 + 1442695040888963407
	return int(d.state>>33) % n
}

// number is one of 32 bits: an edge, a small one, or any.
func (d *dice) number() int {
	switch d.below(4) {
	case 0:
		return []int{least, least + 1, -1, 0, 1, greatest - 1, greatest}[d.below(7)]
	case 1:
		return d.below(2049) - 1024
	case 2:
		return (d.below(2001) - 1000) << api.Frac
	}
	return int(int32(d.below(1<<31)<<1 + d.below(2)))
}

// grownTree puts a fork in the place of some leaf, so many times.
func grownTree(d *dice, dim, forks int) []uint64 {
	nodes := []api.Node{{Leaf: true, Value: d.number()}}
	for range forks {
		at := d.below(len(nodes))
		for !nodes[at].Leaf {
			at = (at + 1) % len(nodes)
		}
		count := len(nodes)
		nodes[at] = api.Node{Feature: d.below(dim), At: d.number(), Left: count, Right: count + 1}
		if d.below(2) == 0 {
			nodes[at].Left, nodes[at].Right = count+1, count
		}
		nodes = append(nodes, api.Node{Leaf: true, Value: d.number()}, api.Node{Leaf: true, Value: d.number()})
	}
	var l []uint64
	for _, n := range nodes {
		l = append(l, node.Pack(n))
	}
	return l
}

func grown(d *dice) api.Model {
	m := api.Model{Dim: 1 + d.below(4), Classes: 1 + d.below(3)}
	for class := range m.Classes {
		m.Bias[class] = d.number()
	}
	for range d.below(9) {
		m.Trees = append(m.Trees, api.Tree{Class: d.below(m.Classes), Nodes: grownTree(d, m.Dim, d.below(16))})
	}
	return m
}

// full has as many trees, of as many nodes, as a model may have.
func full() api.Model {
	d := &dice{9}
	m := api.Model{Dim: api.MaxDim, Classes: api.MaxClasses, Bias: [3]int{least, -1, greatest}}
	for i := range api.MaxTrees {
		m.Trees = append(m.Trees, api.Tree{Class: i % api.MaxClasses, Nodes: grownTree(d, api.MaxDim, api.MaxNodes/2)})
	}
	return m
}

func rightModels() []api.Model {
	list := []api.Model{run(), mixed(), full()}
	for dim := 1; dim <= api.MaxDim; dim++ {
		for classes := 1; classes <= api.MaxClasses; classes++ {
			m := api.Model{Dim: dim, Classes: classes}
			list = append(list, m)
			for i := range api.MaxTrees {
				m.Trees = append(slices.Clone(m.Trees), lone(i%classes, i))
				list = append(list, m)
			}
		}
	}
	d := &dice{99}
	for range 200 {
		list = append(list, grown(d))
	}
	return list
}

// wrongModels are each mixed with one thing that doesn't belong there.
func wrongModels() map[string]api.Model {
	list := map[string]api.Model{"zero": {}, "empty": {Trees: []api.Tree{}}}
	add := func(name string, change func(m *api.Model)) {
		m := mixed()
		change(&m)
		list[name] = m
	}
	for _, n := range []int{math.MinInt64, -1, 0, 3, 5, math.MaxInt64} {
		add("dim "+strconv.Itoa(n), func(m *api.Model) { m.Dim = n })
	}
	for _, n := range []int{math.MinInt64, -1, 0, 1, 2, 4, math.MaxInt64} {
		add("classes "+strconv.Itoa(n), func(m *api.Model) { m.Classes = n })
	}
	for _, n := range []int{math.MinInt64, least - 1, greatest + 1, math.MaxInt64} {
		add("bias "+strconv.Itoa(n), func(m *api.Model) { m.Bias[1] = n })
	}
	for _, n := range []int{math.MinInt64, -1, 3, math.MaxInt64} {
		add("class "+strconv.Itoa(n), func(m *api.Model) { m.Trees[2].Class = n })
	}
	add("bias of no class", func(m *api.Model) { m.Trees, m.Classes = nil, 2 })
	add("nine trees", func(m *api.Model) { m.Trees = append(m.Trees, slices.Repeat([]api.Tree{lone(0, 1)}, 6)...) })
	for name, row := range map[string][]uint64{
		"nil":         nil,
		"no nodes":    {},
		"no node":     {0},
		"ones":        {math.MaxUint64},
		"two leaves":  {leaf(1), leaf(2)},
		"a side less": {fork(0, 5, 1, 2), leaf(1)},
		"round":       {fork(0, 5, 1, 2), fork(0, 6, 1, 2), leaf(1)},
		"32 nodes":    append(grownTree(&dice{3}, 4, 15), leaf(1)),
	} {
		add(name, func(m *api.Model) { m.Trees[1].Nodes = row })
	}
	return list
}

func alike(a, b api.Model) bool {
	return a.Dim == b.Dim && a.Classes == b.Classes && a.Bias == b.Bias && slices.EqualFunc(a.Trees, b.Trees, func(s, t api.Tree) bool {
		return s.Class == t.Class && slices.Equal(s.Nodes, t.Nodes)
	})
}

// decimals is n by 2^Frac: of 32 bits it has at most 15 digits, so that the shortest text of the float is all of it.
func decimals(n int) string {
	return strconv.FormatFloat(float64(n)/(1<<api.Frac), 'f', -1, 64)
}

// textOf is what Print must make of a right model.
func textOf(m api.Model) string {
	s := fmt.Sprintf("forest %d %d\nbias", m.Dim, m.Classes)
	for class := range m.Classes {
		s += " " + decimals(m.Bias[class])
	}
	s += "\n"
	for _, t := range m.Trees {
		s += fmt.Sprintf("tree %d %d\n", t.Class, len(t.Nodes))
		for _, w := range t.Nodes {
			number := decimals(int(int32(w)))
			if w>>63 == 1 {
				s += "leaf " + number + "\n"
			} else {
				s += fmt.Sprintf("if %d <= %s then %d else %d\n", w>>32&15, number, w>>40&255, w>>48&255)
			}
		}
	}
	return s
}

const (
	smallForm  = `(0|[1-9][0-9]?)`
	numberForm = `(-?(?:0|[1-9][0-9]{0,6})(?:\.[0-9]{0,7}[1-9])?)`
)

var (
	headForm = regexp.MustCompile(`^forest ` + smallForm + ` ` + smallForm + `$`)
	biasForm = regexp.MustCompile(`^bias(?: ` + numberForm + `)(?: ` + numberForm + `)?(?: ` + numberForm + `)?$`)
	treeForm = regexp.MustCompile(`^tree ` + smallForm + ` ` + smallForm + `$`)
	leafForm = regexp.MustCompile(`^leaf ` + numberForm + `$`)
	forkForm = regexp.MustCompile(`^if ` + smallForm + ` <= ` + numberForm + ` then ` + smallForm + ` else ` + smallForm + `$`)
)

// lineReader takes lines by their forms, for modelOf.
type lineReader struct {
	lines []string
	bad   bool
}

// next is the parts of the next line, if it has the form.
func (r *lineReader) next(form *regexp.Regexp) ([]string, bool) {
	if len(r.lines) == 0 {
		return nil, false
	}
	parts := form.FindStringSubmatch(r.lines[0])
	if parts == nil {
		return nil, false
	}
	r.lines = r.lines[1:]
	return parts[1:], true
}

func (r *lineReader) small(s string) int {
	n, err := strconv.Atoi(s)
	r.bad = r.bad || err != nil
	return n
}

func (r *lineReader) number(s string) int {
	f, err := strconv.ParseFloat(s, 64)
	n := int(f * (1 << api.Frac))
	r.bad = r.bad || err != nil || s == "-0" || float64(n) != f*(1<<api.Frac) || n < least || n > greatest
	return n
}

func (r *lineReader) node() uint64 {
	if parts, ok := r.next(leafForm); ok {
		return leaf(r.number(parts[0]))
	}
	parts, ok := r.next(forkForm)
	if !ok {
		r.bad = true
		return 0
	}
	return fork(r.small(parts[0]), r.number(parts[1]), r.small(parts[2]), r.small(parts[3]))
}

// modelOf is what Parse must tell of s: line by line, by the forms that P9.1 says.
func modelOf(s string) (api.Model, bool) {
	body, ended := strings.CutSuffix(s, "\n")
	r := &lineReader{lines: strings.Split(body, "\n")}
	head, hasHead := r.next(headForm)
	biases, hasBias := r.next(biasForm)
	if !ended || !hasHead || !hasBias {
		return api.Model{}, false
	}
	biases = slices.DeleteFunc(biases, func(s string) bool { return s == "" })
	m := api.Model{Dim: r.small(head[0]), Classes: r.small(head[1])}
	if len(biases) != m.Classes {
		return api.Model{}, false
	}
	for class, bias := range biases {
		m.Bias[class] = r.number(bias)
	}
	for len(r.lines) > 0 && !r.bad {
		parts, ok := r.next(treeForm)
		if !ok {
			return api.Model{}, false
		}
		t := api.Tree{Class: r.small(parts[0])}
		for range r.small(parts[1]) {
			t.Nodes = append(t.Nodes, r.node())
		}
		m.Trees = append(m.Trees, t)
	}
	if r.bad || !model.Right(m) {
		return api.Model{}, false
	}
	return m, true
}

// holdParse holds Parse against the forms, and tells whether s was a model's.
func holdParse(t *testing.T, s string) bool {
	t.Helper()
	want, wantOK := modelOf(s)
	got, ok := Parse(s)
	if ok != wantOK || !alike(got, want) {
		t.Errorf("Parse(%q) = %+v, %v, not %+v, %v", s, got, ok, want, wantOK)
	}
	if ok && Print(got) != s {
		t.Errorf("%q is parsed, and printed as %q", s, Print(got))
	}
	return ok
}

// isNone asks that s is no model's text.
func isNone(t *testing.T, what, s string) {
	t.Helper()
	if m, ok := Parse(s); ok || !alike(m, api.Model{}) || m.Trees != nil {
		t.Errorf("%s: Parse(%q) = %+v, %v", what, s, m, ok)
	}
	if _, ok := modelOf(s); ok {
		t.Errorf("%s: the forms take %q", what, s)
	}
}

// isText asks that s is m's text, both ways.
func isText(t *testing.T, m api.Model, s string) {
	t.Helper()
	if got := Print(m); got != s {
		t.Errorf("Print(%+v) = %q, not %q", m, got, s)
	}
	if got, ok := Parse(s); !ok || !alike(got, m) {
		t.Errorf("Parse(%q) = %+v, %v, not %+v", s, got, ok, m)
	}
}

// swapped is s with each one of a part in turn changed for another.
func swapped(s, part, other string) []string {
	var list []string
	for i := range s {
		if strings.HasPrefix(s[i:], part) {
			list = append(list, s[:i]+other+s[i+len(part):])
		}
	}
	return list
}

func TestChapterRun(t *testing.T) {
	isText(t, run(), runText)
}

func TestTextsWrittenOut(t *testing.T) {
	isText(t, mixed(), mixedText)
	isText(t, api.Model{Dim: 1, Classes: 1}, "forest 1 1\nbias 0\n")
	isText(t, api.Model{Dim: 3, Classes: 1, Bias: [3]int{-1}}, "forest 3 1\nbias -0.00390625\n")
	isText(t, api.Model{Dim: 2, Classes: 2, Bias: [3]int{256}}, "forest 2 2\nbias 1 0\n")
	isText(t, api.Model{Dim: 4, Classes: 3, Bias: [3]int{0, 128}}, "forest 4 3\nbias 0 0.5 0\n")
	isText(t, api.Model{Dim: 4, Classes: 3, Trees: []api.Tree{}}, "forest 4 3\nbias 0 0 0\n")
	isText(t, api.Model{Dim: 1, Classes: 1, Trees: []api.Tree{lone(0, 0)}}, "forest 1 1\nbias 0\ntree 0 1\nleaf 0\n")
	eight := api.Model{Dim: 2, Classes: 2, Trees: slices.Repeat([]api.Tree{lone(1, 384)}, api.MaxTrees)}
	isText(t, eight, "forest 2 2\nbias 0 0\n"+strings.Repeat("tree 1 1\nleaf 1.5\n", api.MaxTrees))
}

// A chain's forks name all places from 1 to 30, of one digit and of two.
func TestTreesOfMostNodesWrittenOut(t *testing.T) {
	var nodes []uint64
	want := "forest 1 1\nbias 0\ntree 0 31\n"
	for i := 0; i < 15; i++ {
		nodes = append(nodes, fork(0, i<<api.Frac, i+1, 30-i))
		want += fmt.Sprintf("if 0 <= %d then %d else %d\n", i, i+1, 30-i)
	}
	for i := 15; i < 31; i++ {
		nodes = append(nodes, leaf(i<<api.Frac))
		want += fmt.Sprintf("leaf %d\n", i)
	}
	isText(t, api.Model{Dim: 1, Classes: 1, Trees: []api.Tree{{Nodes: nodes}}}, want)
}

func TestRightModelsArePrintedAndParsed(t *testing.T) {
	for _, m := range rightModels() {
		if !model.Right(m) {
			t.Fatalf("%+v should be right", m)
		}
		isText(t, m, textOf(m))
	}
}

func TestWrongModelsHaveNoText(t *testing.T) {
	for name, m := range wrongModels() {
		if model.Right(m) {
			t.Fatalf("%s: %+v should not be right", name, m)
		}
		if s := Print(m); s != "" {
			t.Errorf("%s: Print = %q", name, s)
		}
	}
	isNone(t, "empty", "")
}

func TestNumbersOf32Bits(t *testing.T) {
	texts := map[int]string{
		least: "-8388608", least + 1: "-8388607.99609375", greatest: "8388607.99609375", greatest - 1: "8388607.9921875", greatest - 255: "8388607",
		0: "0", 1: "0.00390625", -1: "-0.00390625", 255: "0.99609375", -255: "-0.99609375", 256: "1", -256: "-1", -257: "-1.00390625", 2560: "10", -25600: "-100", 12345678: "48225.3046875",
	}
	for n, s := range texts {
		for class := range api.MaxClasses {
			m := api.Model{Dim: 1, Classes: 3}
			m.Bias[class] = n
			words := []string{"0", "0", "0"}
			words[class] = s
			isText(t, m, "forest 1 3\nbias "+strings.Join(words, " ")+"\n")
		}
		isText(t, api.Model{Dim: 1, Classes: 1, Trees: []api.Tree{lone(0, n)}}, "forest 1 1\nbias 0\ntree 0 1\nleaf "+s+"\n")
		for feature := range api.MaxDim {
			m := api.Model{Dim: 4, Classes: 1, Trees: []api.Tree{stump(0, feature, n, 0, n)}}
			isText(t, m, fmt.Sprintf("forest 4 1\nbias 0\ntree 0 3\nif %d <= %s then 1 else 2\nleaf 0\nleaf %s\n", feature, s, s))
		}
	}
}

func TestNumbersThatNoFieldHas(t *testing.T) {
	for _, s := range []string{
		"8388608", "-8388608.00390625", "8388608.00390625", "-8388609", "16777216", "36028797018963967.99609375", "-36028797018963968", "36028797018963968",
		"72057594037927936", "18446744073709551616", "99999999999999999999999999", strings.Repeat("9", 5000),
		"", "-", "+", ".", "-0", "+0", "00", "01", "-01", "+1", "--1", "1.", ".5", "-.5", "0.", "0.0", "1.0", "1.50", "0.1", "0.003", "0.001953125", "0.390625000", "1.5.5",
		"1e2", "0x1", "1_0", "1,5", "a", "NaN", "Inf", "-Inf", "٣", "½", "\x00", "1\x00", "\xff", "1\t", "\t1", "1\r", "1\v",
	} {
		isNone(t, "bias", "forest 1 1\nbias "+s+"\n")
		isNone(t, "second bias", "forest 1 3\nbias 0 "+s+" 0\n")
		isNone(t, "leaf", "forest 1 1\nbias 0\ntree 0 1\nleaf "+s+"\n")
		isNone(t, "at", "forest 1 1\nbias 0\ntree 0 3\nif 0 <= "+s+" then 1 else 2\nleaf 0\nleaf 0\n")
	}
}

// Each small number of a text is told in one way, and kept to what a right model has there.
func TestSmallNumbers(t *testing.T) {
	strange := []string{"", "-", "-0", "-1", "+0", "+1", "+2", "00", "01", "02", "03", "001", "1.0", "0.00390625", "1.5", "0x1", "1e0", " 1", "1 ", "1\t", "a", "one", "٣", "\x00", "\x011", "1\xff",
		"4294967296", "4294967297", "4294967299", "9223372036854775807", "9223372036854775808", "18446744073709551616", "18446744073709551617", "18446744073709551619",
		strings.Repeat("0", 5000) + "1", strings.Repeat("9", 5000)}
	for what, c := range map[string]struct {
		ahead, behind string
		right         []int
	}{
		"dim":     {"forest ", " 1\nbias 0\ntree 0 3\nif 1 <= 0 then 1 else 2\nleaf 0\nleaf 0\n", []int{2, 3, 4}},
		"classes": {"forest 2 ", "\nbias 0 0\ntree 1 1\nleaf 0\n", []int{2}},
		"class":   {"forest 1 2\nbias 0 0\ntree ", " 1\nleaf 0\n", []int{0, 1}},
		"count":   {"forest 1 1\nbias 0\ntree 0 ", "\nif 0 <= 0 then 1 else 2\nleaf 0\nleaf 0\ntree 0 1\nleaf 0\n", []int{3}},
		"feature": {"forest 3 1\nbias 0\ntree 0 3\nif ", " <= 0 then 1 else 2\nleaf 0\nleaf 0\n", []int{0, 1, 2}},
		"left":    {"forest 1 1\nbias 0\ntree 0 3\nif 0 <= 0 then ", " else 2\nleaf 0\nleaf 0\n", []int{1}},
		"right":   {"forest 1 1\nbias 0\ntree 0 3\nif 0 <= 0 then 1 else ", "\nleaf 0\nleaf 0\n", []int{2}},
	} {
		for n := range 400 {
			s := c.ahead + strconv.Itoa(n) + c.behind
			if ok := holdParse(t, s); ok != slices.Contains(c.right, n) {
				t.Errorf("%s: Parse(%q) tells %v", what, s, ok)
			}
		}
		for _, word := range strange {
			isNone(t, what, c.ahead+word+c.behind)
		}
	}
}

func TestTextsOfNone(t *testing.T) {
	for _, s := range []string{
		"\n", " ", "\x00", "\xff\xfe", "forest", "forest\n", "forest \n", "forest 1 1", "forest 1 1\n", "forest 1 1\nbias", "forest 1 1\nbias\n", "forest 1 1\nbias \n", "forest 1 1\nbias 0",
		"forest 0 1\nbias 0\n", "forest 5 1\nbias 0\n", "forest 1 0\nbias\n", "forest 1 0\nbias \n", "forest 1 0\nbias 0\n", "forest 1 4\nbias 0 0 0 0\n", "forest 1 4\nbias 0 0 0\n",
		"bias 0\n", "bias 0\nforest 1 1\n", "tree 0 1\nleaf 0\n", "forest 1 1\ntree 0 1\nleaf 0\n", "forest 1 1\nbias 0\nforest 1 1\nbias 0\n", "forest 1 1\nbias 0\nbias 0\n",
		"forest 1 1\nbias 0\nleaf 0\n", "forest 1 1\nbias 0\nif 0 <= 0 then 1 else 2\n", "forest 1 1\nbias 0\ntree 0 0\n", "forest 1 1\nbias 0\ntree 0 1\n", "forest 1 1\nbias 0\ntree 0 1\ntree 0 1\nleaf 0\n",
		"forest 1 1\r\nbias 0\n", "forest 1 1\nbias 0\r\n", "forest 1 1\rbias 0\r", "forest 1 1 bias 0\n", "forest\n1 1\nbias 0\n", "forest 1 1\nbias\n0\n", "\xef\xbb\xbfforest 1 1\nbias 0\n",
		"forest 1 1\nbias 0\ntree 0 1\nleaf\n", "forest 1 1\nbias 0\ntree 0 1\nleaf0\n", "forest 1 1\nbias 0\ntree 0 1\nleaf 0 0\n", "forest 1 1\nbias 0\ntree 0 1\nleafs 0\n",
	} {
		isNone(t, "none", s)
	}
}

func TestLineFeedsAtTheEnd(t *testing.T) {
	for _, m := range rightModels() {
		s := textOf(m)
		isNone(t, "a line feed less", strings.TrimSuffix(s, "\n"))
		isNone(t, "a line feed more", s+"\n")
		isNone(t, "a line feed ahead", "\n"+s)
		isNone(t, "a blank behind", s+" ")
		isNone(t, "a byte behind", s+"\x00")
	}
}

func TestBlanks(t *testing.T) {
	for _, s := range []string{runText, mixedText} {
		for i := range len(s) + 1 {
			for _, blank := range []string{" ", "\t", "\r", "\n", "\v", "\f", "\u00a0", "\u0085", "\u2028"} {
				isNone(t, "a blank more", s[:i]+blank+s[i:])
			}
		}
		for _, change := range [][2]string{{" ", ""}, {" ", "  "}, {" ", "\t"}, {" ", "\n"}, {" ", "_"}, {"\n", ""}, {"\n", " \n"}, {"\n", "\n "}, {"\n", "\n\n"}, {"\n", " "}, {"\n", "\r"}, {"\n", "\r\n"}, {"\n", "\n\r"}} {
			for _, changed := range swapped(s, change[0], change[1]) {
				isNone(t, strconv.Quote(change[0])+" as "+strconv.Quote(change[1]), changed)
			}
		}
	}
}

func TestOtherWords(t *testing.T) {
	for word, others := range map[string][]string{
		"forest": {"Forest", "FOREST", "fores", "forests", "forrest", "tree", "wood", ""},
		"bias":   {"Bias", "BIAS", "bia", "biases", "base", "leaf", ""},
		"tree":   {"Tree", "TREE", "tre", "trees", "forest", "leaf", "if", ""},
		"leaf":   {"Leaf", "LEAF", "lea", "leafs", "leaves", "if", "bias", ""},
		"if":     {"If", "IF", "i", "iff", "leaf", ""},
		"<=":     {"<", "=", "=<", "<==", "<<=", "≤", ">", ">=", "!=", ""},
		"then":   {"Then", "THEN", "the", "thens", "else", "?", ""},
		"else":   {"Else", "ELSE", "els", "elsewhere", "then", ":", ""},
	} {
		for _, other := range others {
			for _, s := range []string{runText, mixedText} {
				list := swapped(s, word, other)
				if len(list) == 0 {
					t.Fatalf("%q has no %s", s, word)
				}
				for _, changed := range list {
					isNone(t, word+" as "+other, changed)
				}
			}
		}
	}
}

func TestTextsThatAreCutOff(t *testing.T) {
	// A text may end where a tree does: what is left there is a model's.
	for _, m := range []api.Model{run(), mixed(), full()} {
		s := textOf(m)
		ends := map[int]int{}
		for count := range len(m.Trees) + 1 {
			shorter := m
			shorter.Trees = m.Trees[:count]
			ends[len(textOf(shorter))] = 1
		}
		for i := range len(s) + 1 {
			if ok := holdParse(t, s[:i]); ok != (ends[i] == 1) {
				t.Errorf("%q, cut off at %d: %v", s, i, ok)
			}
			if i > 0 {
				isNone(t, "without its front", s[i:])
			}
		}
	}
}

func TestLinesMoreAndFewer(t *testing.T) {
	for _, m := range []api.Model{run(), mixed(), full()} {
		s := textOf(m)
		lines := strings.SplitAfter(strings.TrimSuffix(s, "\n"), "\n")
		lines[len(lines)-1] += "\n"
		for i := range lines {
			isNone(t, "a line fewer", strings.Join(slices.Delete(slices.Clone(lines), i, i+1), ""))
			isNone(t, "a line twice", strings.Join(slices.Insert(slices.Clone(lines), i, lines[i]), ""))
		}
		for i := range len(lines) + 1 {
			for _, line := range []string{"\n", "leaf 0\n", "bias 0\n", "forest 1 1\n", "tree 0 1\n", "# a remark\n", "if 0 <= 0 then 1 else 2\n", "end\n"} {
				isNone(t, "a line more", strings.Join(slices.Insert(slices.Clone(lines), i, line), ""))
			}
		}
		for i := range len(lines) - 1 {
			changed := slices.Clone(lines)
			changed[i], changed[i+1] = changed[i+1], changed[i]
			holdParse(t, strings.Join(changed, ""))
		}
	}
}

func TestBiasesMoreAndFewer(t *testing.T) {
	for classes := range 8 {
		for biases := range 8 {
			s := "forest 1 " + strconv.Itoa(classes) + "\nbias" + strings.Repeat(" 0.5", biases) + "\n"
			if ok := holdParse(t, s); ok != (classes == biases && classes >= 1 && classes <= api.MaxClasses) {
				t.Errorf("Parse(%q) tells %v", s, ok)
			}
		}
	}
	isNone(t, "very many biases", "forest 1 3\nbias"+strings.Repeat(" 0", 100000)+"\n")
}

func TestNumbersOfTrees(t *testing.T) {
	for count := range 30 {
		s := "forest 1 1\nbias 0\n" + strings.Repeat("tree 0 1\nleaf 0\n", count)
		if ok := holdParse(t, s); ok != (count <= api.MaxTrees) {
			t.Errorf("%d trees: %v", count, ok)
		}
	}
	isNone(t, "very many trees", "forest 1 1\nbias 0\n"+strings.Repeat("tree 0 1\nleaf 0\n", 100000))
	s := textOf(full())
	isNone(t, "a ninth tree", s+"tree 0 1\nleaf 0\n")
}

// chainText is the text of a tree of so many forks, each the right side of the one ahead; its line says so many nodes.
func chainText(forks, says int) string {
	s := "forest 1 1\nbias 0\ntree 0 " + strconv.Itoa(says) + "\n"
	for i := range forks {
		s += fmt.Sprintf("if 0 <= %d then %d else %d\nleaf %d\n", i, 2*i+1, 2*i+2, i)
	}
	return s + "leaf 0.5\n"
}

func TestNumbersOfNodes(t *testing.T) {
	for forks := range 20 {
		nodes := 2*forks + 1
		for says := range 45 {
			if ok := holdParse(t, chainText(forks, says)); ok != (says == nodes && nodes <= api.MaxNodes) {
				t.Errorf("%d nodes that are told as %d: %v", nodes, says, ok)
			}
		}
	}
	isNone(t, "very many nodes", "forest 1 1\nbias 0\ntree 0 100000\n"+strings.Repeat("leaf 0\n", 100000))
	isNone(t, "very many nodes behind", "forest 1 1\nbias 0\ntree 0 1\n"+strings.Repeat("leaf 0\n", 100000))
}

// Texts that have the form all over, but of models that aren't right.
func TestTextsOfWrongModels(t *testing.T) {
	for what, s := range map[string]string{
		"dim below a feature":  "forest 1 1\nbias 0\ntree 0 3\nif 1 <= 0 then 1 else 2\nleaf 0\nleaf 0\n",
		"feature beyond":       "forest 4 1\nbias 0\ntree 0 3\nif 4 <= 0 then 1 else 2\nleaf 0\nleaf 0\n",
		"feature of four bits": "forest 4 1\nbias 0\ntree 0 3\nif 16 <= 0 then 1 else 2\nleaf 0\nleaf 0\n",
		"class beyond":         "forest 1 1\nbias 0\ntree 1 1\nleaf 0\n",
		"two leaves":           "forest 1 1\nbias 0\ntree 0 2\nleaf 0\nleaf 0\n",
		"sides alike":          "forest 1 1\nbias 0\ntree 0 2\nif 0 <= 0 then 1 else 1\nleaf 0\n",
		"side 0":               "forest 1 1\nbias 0\ntree 0 3\nif 0 <= 0 then 0 else 2\nleaf 0\nleaf 0\n",
		"side beyond":          "forest 1 1\nbias 0\ntree 0 3\nif 0 <= 0 then 1 else 3\nleaf 0\nleaf 0\n",
		"side ahead":           "forest 1 1\nbias 0\ntree 0 5\nif 0 <= 0 then 1 else 2\nleaf 0\nif 0 <= 0 then 1 else 3\nleaf 0\nleaf 0\n",
		"a leaf of none":       "forest 1 1\nbias 0\ntree 0 4\nif 0 <= 0 then 1 else 2\nleaf 0\nleaf 0\nleaf 0\n",
		"a leaf of two":        "forest 1 1\nbias 0\ntree 0 4\nif 0 <= 0 then 1 else 2\nif 0 <= 0 then 2 else 3\nleaf 0\nleaf 0\n",
		"a fork alone":         "forest 1 1\nbias 0\ntree 0 1\nif 0 <= 0 then 1 else 2\n",
		"a second tree":        "forest 1 1\nbias 0\ntree 0 1\nleaf 0\ntree 0 2\nleaf 0\nleaf 0\n",
		"great bias":           "forest 1 1\nbias 8388608\n",
		"small bias":           "forest 1 1\nbias -8388608.00390625\n",
		"great value":          "forest 1 1\nbias 0\ntree 0 1\nleaf 8388608\n",
		"small value":          "forest 1 1\nbias 0\ntree 0 1\nleaf -8388608.00390625\n",
		"great at":             "forest 1 1\nbias 0\ntree 0 3\nif 0 <= 8388608 then 1 else 2\nleaf 0\nleaf 0\n",
		"bits behind 32":       "forest 1 1\nbias 0\ntree 0 1\nleaf 16777216\n",
	} {
		isNone(t, what, s)
	}
}

// P9.3: of texts beside printed ones just those are parsed that have the form all over.
func TestEachByteChanged(t *testing.T) {
	for _, s := range []string{runText, mixedText} {
		parsed := 0
		for i := range s {
			if holdParse(t, s[:i]+s[i+1:]) {
				parsed++
			}
			for b := range 256 {
				if holdParse(t, s[:i]+string([]byte{byte(b)})+s[i+1:]) {
					parsed++
				}
			}
			for _, b := range []byte("\x00\t\n\r +-.0123456789<=aefilnorst\x7f\x80\xff") {
				if holdParse(t, s[:i]+string([]byte{b})+s[i:]) {
					parsed++
				}
			}
		}
		if parsed <= len(s) {
			t.Errorf("only %d texts beside %q are parsed", parsed, s)
		}
	}
}

func TestWordsMixedUp(t *testing.T) {
	words := []string{"forest", "bias", "tree", "leaf", "if", "<=", "then", "else", "0", "1", "2", "3", "-0", "0.5", "-1.25", "31", "", "\n", " "}
	d := &dice{93}
	for range 20000 {
		list := strings.Split(strings.ReplaceAll([]string{runText, mixedText}[d.below(2)], "\n", " \n "), " ")
		for range 1 + d.below(2) {
			list[d.below(len(list))] = words[d.below(len(words))]
		}
		holdParse(t, strings.ReplaceAll(strings.Join(list, " "), " \n ", "\n"))
	}
}

// No two right models have one text: else one of them would not be parsed.
func TestTextsTellModelsApart(t *testing.T) {
	seen := map[string]api.Model{}
	for _, m := range rightModels() {
		s := Print(m)
		if other, ok := seen[s]; ok && !alike(other, m) {
			t.Errorf("%q is the text of %+v and of %+v", s, m, other)
		}
		seen[s] = m
	}
}

// roomy is m with words and trees in the room behind its lists.
func roomy(m api.Model) api.Model {
	m.Trees = append(slices.Clone(m.Trees), stump(0, 0, 1, 2, 3), api.Tree{Class: 7})[:len(m.Trees)]
	for i, t := range m.Trees {
		m.Trees[i].Nodes = append(slices.Clone(t.Nodes), leaf(1), 3, fork(0, 1, 1, 2))[:len(t.Nodes)]
	}
	return m
}

// withRoom is a copy of m with its lists as long as their room.
func withRoom(m api.Model) api.Model {
	m.Trees = slices.Clone(m.Trees[:cap(m.Trees)])
	for i, t := range m.Trees {
		m.Trees[i].Nodes = slices.Clone(t.Nodes[:cap(t.Nodes)])
	}
	return m
}

func TestPrintChangesNothing(t *testing.T) {
	for _, plain := range append(rightModels(), slices.Collect(maps.Values(wrongModels()))...) {
		m := roomy(plain)
		before := withRoom(m)
		if first, second := Print(m), Print(plain); first != second {
			t.Errorf("Print(%+v) = %q with room behind, %q without", plain, first, second)
		}
		if !alike(withRoom(m), before) || !alike(m, plain) {
			t.Errorf("%+v is now %+v", plain, m)
		}
	}
}

// Writing over one answer's lists and the room behind them must not be seen in another list, nor in a later answer.
func TestParsedModelsAreNewMemory(t *testing.T) {
	for _, m := range rightModels() {
		s := textOf(m)
		first, _ := Parse(s)
		second, _ := Parse(s)
		for i := range first.Trees {
			nodes := first.Trees[i].Nodes
			for j := range nodes[:cap(nodes)] {
				nodes[:cap(nodes)][j] = uint64(i)
			}
			for j := range first.Trees {
				if j > i && !slices.Equal(first.Trees[j].Nodes, m.Trees[j].Nodes) {
					t.Errorf("trees %d and %d of %q share their nodes", i, j, s)
				}
			}
		}
		for i := range first.Trees[:cap(first.Trees)] {
			first.Trees[:cap(first.Trees)][i] = api.Tree{Class: 9}
		}
		third, ok := Parse(s)
		if !ok || !alike(second, m) || !alike(third, m) {
			t.Errorf("%q is parsed as %+v, then %+v", s, second, third)
		}
	}
}
