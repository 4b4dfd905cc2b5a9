package ask

import (
	"fmt"
	"math"
	"math/big"
	"regexp"
	"slices"
	"strconv"
	"strings"
	"testing"

	"copse/api"
)

const (
	least    = math.MinInt64
	greatest = math.MaxInt64
	most     = 1 << 30 // of a Class, a Feature, a Budget
)

var (
	kinds = []int{api.QRange, api.QBest, api.QMono}
	// noKinds are below the first and above the last, some of them a kind in their lowest bits.
	noKinds = []int{least, least + 1, -3, -2, -1, 0, 4, 5, 6, 255, 256, 257, 1<<32 + 1, 1<<32 + 2, 1<<32 + 3, greatest - 1, greatest}
	noDims  = []int{least, least + 1, -4, -1, 0, 5, 6, 257, 1<<32 + 1, greatest - 1, greatest}
	// counts are those that a Class, a Feature, a Budget may be told as, noCounts are none of them.
	counts   = []int{0, 1, 2, 3, 9, 10, 11, 99, 100, 65535, 65536, 65537, 999999999, 1000000000, most - 1, most}
	noCounts = []int{least, least + 1, -1 << 32, -most, -256, -10, -2, -1, most + 1, most + 2, 1<<31 - 1, 1 << 31, 1<<32 - 1, 1 << 32, 1<<32 + 1, 1 << 38, 1 << 55, 1 << 56, greatest - 1, greatest}
)

// numberTexts are numbers with a point, written out.
var numberTexts = map[int]string{
	0: "0", 1: "0.00390625", -1: "-0.00390625", 2: "0.0078125", 128: "0.5", -128: "-0.5", 255: "0.99609375", 256: "1", -256: "-1", 257: "1.00390625", -257: "-1.00390625",
	384: "1.5", 2560: "10", -25664: "-100.25", math.MinInt32: "-8388608", math.MaxInt32: "8388607.99609375", math.MinInt32 - 1: "-8388608.00390625", math.MaxInt32 + 1: "8388608",
	least: "-36028797018963968", least + 1: "-36028797018963967.99609375", least + 256: "-36028797018963967",
	greatest: "36028797018963967.99609375", greatest - 1: "36028797018963967.9921875", greatest - 127: "36028797018963967.5", greatest - 255: "36028797018963967",
}

// strangeNumbers are texts of no number at all: neither a decimal nor one with a point.
var strangeNumbers = []string{
	"", "-", "+", ".", "-.", "-0", "+0", "00", "000", "-00", "01", "-01", "007", "+1", "--1", "-+1", "1-", "1.", "-1.", ".5", "-.5", "0.", "0.0", "-0.0", "1.0", "1.50", "0.10", "00.5", "-00.5", "01.5", "1.00390625000",
	"0.1", "0.3", "0.001", "0.001953125", "1.5.5", "1.-5", "1.+5", "1e2", "0x1", "1_0", "1,5", "a", "one", "NaN", "Inf", "-Inf", "٣", "½", "−1", "\x00", "1\x00", "\xff", "1\xff", "1\t", "\t1", "1\r", "1\n", "\n1", "1\v",
	"36028797018963968", "36028797018963968.5", "-36028797018963968.00390625", "-36028797018963969", "72057594037927936", "72057594037927937", "-72057594037927937", "18446744073709551616", "18446744073709551617", "99999999999999999999999999",
	strings.Repeat("9", 5000), strings.Repeat("0", 5000) + "1", "0." + strings.Repeat("5", 5000), "1.5" + strings.Repeat("0", 5000),
}

// of is a region by Lo, Hi of each place in turn; (0, 0) in all others.
func of(l ...int) api.Box {
	var b api.Box
	for i := 0; i+1 < len(l); i += 2 {
		b[i/2] = api.Span{Lo: l[i], Hi: l[i+1]}
	}
	return b
}

// asked is a query with all told fields other than zero, and no others.
func asked(kind, dim int) api.Query {
	q := api.Query{Kind: kind, Class: 2, Budget: 70}
	for place := range dim {
		q.Region[place] = api.Span{Lo: -300 - place, Hi: 512 + 64*place}
	}
	switch kind {
	case api.QRange:
		q.Lo, q.Hi = -640, 896
	case api.QMono:
		q.Feature, q.Falls = 3, true
	}
	return q
}

// askedTexts are those of asked, by kind, written out for dim 1 and for dim 4.
var askedTexts = map[int][2]string{
	api.QRange: {"range 2 from -2.5 to 3.5 in -1.171875..2 budget 70", "range 2 from -2.5 to 3.5 in -1.171875..2 -1.17578125..2.25 -1.1796875..2.5 -1.18359375..2.75 budget 70"},
	api.QBest:  {"best 2 in -1.171875..2 budget 70", "best 2 in -1.171875..2 -1.17578125..2.25 -1.1796875..2.5 -1.18359375..2.75 budget 70"},
	api.QMono:  {"falls 2 by 3 in -1.171875..2 budget 70", "falls 2 by 3 in -1.171875..2 -1.17578125..2.25 -1.1796875..2.5 -1.18359375..2.75 budget 70"},
}

// sampleTexts are one or two of each kind, of short regions and of long ones.
var sampleTexts = []string{
	"range 0 from 1 to 2 in 0..0.5 budget 9",
	"best 0 in 0..0 budget 0",
	"rises 1 by 0 in -1..1 0.25..3 budget 12",
	askedTexts[api.QRange][1], askedTexts[api.QBest][1], askedTexts[api.QMono][1],
}

// dice tell numbers by a rule of their own, so that each run of the tests makes the same queries.
type dice struct{ state uint64 }

func (d *dice) below(n int) int {
	d.state = d.state*6364136223846793005 + 1442695040888963407
	return int(d.state>>33) % n
}

// number is an edge, a small one, or any.
func (d *dice) number() int {
	switch d.below(4) {
	case 0:
		return []int{least, least + 1, math.MinInt32, -256, -1, 0, 1, 256, math.MaxInt32, greatest - 1, greatest}[d.below(11)]
	case 1:
		return d.below(2049) - 1024
	case 2:
		return (d.below(2001) - 1000) << api.Frac
	}
	return d.below(1<<31)<<33 ^ d.below(1<<31)<<16 ^ d.below(1<<16)
}

func (d *dice) count() int {
	if d.below(2) == 0 {
		return counts[d.below(len(counts))]
	}
	return d.below(most + 1)
}

// thrown is a query that has a text, and its dim.
func thrown(d *dice) (api.Query, int) {
	q, dim := api.Query{Kind: kinds[d.below(3)], Class: d.count(), Budget: d.count()}, 1+d.below(api.MaxDim)
	for place := range dim {
		q.Region[place] = api.Span{Lo: d.number(), Hi: d.number()}
	}
	switch q.Kind {
	case api.QRange:
		q.Lo, q.Hi = d.number(), d.number()
	case api.QMono:
		q.Feature, q.Falls = d.count(), d.below(2) == 0
	}
	return q, dim
}

// decimals is n by 2^Frac by numbers without bounds: Frac decimals are enough of any part.
func decimals(n int) string {
	text := new(big.Rat).SetFrac(big.NewInt(int64(n)), big.NewInt(1<<api.Frac)).FloatString(api.Frac)
	return strings.TrimSuffix(strings.TrimRight(text, "0"), ".")
}

// textOf is what Print must make of a query that has a text.
func textOf(q api.Query, dim int) string {
	s := ""
	switch {
	case q.Kind == api.QRange:
		s = fmt.Sprintf("range %d from %s to %s in", q.Class, decimals(q.Lo), decimals(q.Hi))
	case q.Kind == api.QBest:
		s = fmt.Sprintf("best %d in", q.Class)
	case q.Falls:
		s = fmt.Sprintf("falls %d by %d in", q.Class, q.Feature)
	default:
		s = fmt.Sprintf("rises %d by %d in", q.Class, q.Feature)
	}
	for _, span := range q.Region[:dim] {
		s += " " + decimals(span.Lo) + ".." + decimals(span.Hi)
	}
	return fmt.Sprintf("%s budget %d", s, q.Budget)
}

const (
	countForm  = `(0|[1-9][0-9]*)`
	numberForm = `(-?(?:0|[1-9][0-9]*)(?:\.[0-9]*[1-9])?)`
	regionForm = ` in ` + numberForm + `\.\.` + numberForm + `(?: ` + numberForm + `\.\.` + numberForm + `)?` + `(?: ` + numberForm + `\.\.` + numberForm + `)?` + `(?: ` + numberForm + `\.\.` + numberForm + `)?`
	budgetForm = ` budget ` + countForm + `$`
)

var (
	rangeForm = regexp.MustCompile(`^range ` + countForm + ` from ` + numberForm + ` to ` + numberForm + regionForm + budgetForm)
	bestForm  = regexp.MustCompile(`^best ` + countForm + regionForm + budgetForm)
	monoForm  = regexp.MustCompile(`^(rises|falls) ` + countForm + ` by ` + countForm + regionForm + budgetForm)
)

// parts takes the words of a form that are numbers, for queryOf.
type parts struct {
	rest []string
	bad  bool
}

func (p *parts) next() string {
	s := p.rest[0]
	p.rest = p.rest[1:]
	return s
}

func (p *parts) count() int {
	n, err := strconv.Atoi(p.next())
	p.bad = p.bad || err != nil || n > most
	return n
}

func (p *parts) number() int {
	s := p.next()
	value, ok := new(big.Rat).SetString(s)
	if !ok || s == "-0" {
		p.bad = true
		return 0
	}
	value.Mul(value, big.NewRat(1<<api.Frac, 1))
	p.bad = p.bad || !value.IsInt() || !value.Num().IsInt64()
	return int(value.Num().Int64())
}

func (p *parts) region() (api.Box, int) {
	var b api.Box
	dim := 0
	for place := range api.MaxDim {
		if p.rest[0] == "" {
			p.rest = p.rest[2:]
			continue
		}
		b[place] = api.Span{Lo: p.number(), Hi: p.number()}
		dim++
	}
	return b, dim
}

// queryOf is what Parse must tell of s, by the forms that P11.1 says.
func queryOf(s string) (api.Query, int, bool) {
	var q api.Query
	p := &parts{}
	if found := rangeForm.FindStringSubmatch(s); found != nil {
		p.rest, q.Kind = found[1:], api.QRange
		q.Class, q.Lo, q.Hi = p.count(), p.number(), p.number()
	} else if found := bestForm.FindStringSubmatch(s); found != nil {
		p.rest, q.Kind = found[1:], api.QBest
		q.Class = p.count()
	} else if found := monoForm.FindStringSubmatch(s); found != nil {
		p.rest, q.Kind = found[1:], api.QMono
		q.Falls = p.next() == "falls"
		q.Class, q.Feature = p.count(), p.count()
	} else {
		return api.Query{}, 0, false
	}
	region, dim := p.region()
	q.Region, q.Budget = region, p.count()
	if p.bad {
		return api.Query{}, 0, false
	}
	return q, dim, true
}

// holdParse holds Parse against the forms, and tells whether s was a query's.
func holdParse(t *testing.T, s string) bool {
	t.Helper()
	want, wantDim, wantOK := queryOf(s)
	q, dim, ok := Parse(s)
	if q != want || dim != wantDim || ok != wantOK {
		t.Errorf("Parse(%.300q) = %+v, %d, %v, not %+v, %d, %v", s, q, dim, ok, want, wantDim, wantOK)
	}
	if ok && Print(q, dim) != s {
		t.Errorf("%.300q is parsed, and printed as %q", s, Print(q, dim))
	}
	return ok
}

// isNone asks that s is no query's text.
func isNone(t *testing.T, what, s string) {
	t.Helper()
	if q, dim, ok := Parse(s); ok || q != (api.Query{}) || dim != 0 {
		t.Errorf("%s: Parse(%.300q) = %+v, %d, %v", what, s, q, dim, ok)
	}
	if _, _, ok := queryOf(s); ok {
		t.Errorf("%s: the forms take %.300q", what, s)
	}
}

// isText asks that s is the text of q with dim, both ways.
func isText(t *testing.T, q api.Query, dim int, s string) {
	t.Helper()
	if got := Print(q, dim); got != s {
		t.Errorf("Print(%+v, %d) = %q, not %q", q, dim, got, s)
	}
	if got, gotDim, ok := Parse(s); got != q || gotDim != dim || !ok {
		t.Errorf("Parse(%q) = %+v, %d, %v, not %+v, %d", s, got, gotDim, ok, q, dim)
	}
}

func hasNoText(t *testing.T, what string, q api.Query, dim int) {
	t.Helper()
	if s := Print(q, dim); s != "" {
		t.Errorf("%s: Print(%+v, %d) = %q", what, q, dim, s)
	}
}

// swapped is s with each one of a part in turn changed for another.
func swapped(s, part, other string) []string {
	var list []string
	for i := range s {
		if strings.HasPrefix(s[i:], part) {
			list = append(list, s[:i]+other+s[i+len(part):])
		}
	}
	return list
}

func TestChapterRun(t *testing.T) {
	isText(t, api.Query{Kind: api.QRange, Lo: 256, Hi: 512, Region: of(0, 128), Budget: 9}, 1, "range 0 from 1 to 2 in 0..0.5 budget 9")
}

func TestTextsWrittenOut(t *testing.T) {
	for _, kind := range kinds {
		isText(t, asked(kind, 1), 1, askedTexts[kind][0])
		isText(t, asked(kind, 4), 4, askedTexts[kind][1])
	}
	isText(t, api.Query{Kind: api.QRange}, 1, "range 0 from 0 to 0 in 0..0 budget 0")
	isText(t, api.Query{Kind: api.QBest}, 2, "best 0 in 0..0 0..0 budget 0")
	isText(t, api.Query{Kind: api.QMono}, 3, "rises 0 by 0 in 0..0 0..0 0..0 budget 0")
	isText(t, api.Query{Kind: api.QMono, Falls: true}, 4, "falls 0 by 0 in 0..0 0..0 0..0 0..0 budget 0")
	isText(t, api.Query{Kind: api.QMono, Class: 1, Feature: 3, Region: of(-256, -128, 1, 2), Budget: api.MaxBudget}, 2, "rises 1 by 3 in -1..-0.5 0.00390625..0.0078125 budget 65536")
}

func TestDims(t *testing.T) {
	for _, kind := range kinds {
		for dim := 1; dim <= api.MaxDim; dim++ {
			isText(t, asked(kind, dim), dim, textOf(asked(kind, dim), dim))
			isText(t, api.Query{Kind: kind}, dim, textOf(api.Query{Kind: kind}, dim))
		}
		for _, dim := range noDims {
			hasNoText(t, "no dim", api.Query{Kind: kind}, dim)
			hasNoText(t, "no dim", asked(kind, 1), dim)
			hasNoText(t, "no dim", asked(kind, 4), dim)
		}
	}
}

func TestKindsThatAreNone(t *testing.T) {
	for _, kind := range noKinds {
		for dim := 1; dim <= api.MaxDim; dim++ {
			hasNoText(t, "no kind", api.Query{Kind: kind}, dim)
			hasNoText(t, "no kind", asked(kind, dim), dim)
			hasNoText(t, "no kind", api.Query{Kind: kind, Lo: 1, Hi: 2}, dim)
			hasNoText(t, "no kind", api.Query{Kind: kind, Feature: 1, Falls: true}, dim)
		}
	}
	for _, dim := range append([]int{1, 2, 3, 4}, noDims...) {
		hasNoText(t, "zero", api.Query{}, dim)
	}
}

// countFields are where a Class, a Feature and a Budget stand in the texts.
var countFields = []struct {
	what          string
	kind          int
	set           func(q *api.Query, n int)
	ahead, behind string
}{
	{"class of a range", api.QRange, func(q *api.Query, n int) { q.Class = n }, "range ", " from -2.5 to 3.5 in -1.171875..2 budget 70"},
	{"class of a best", api.QBest, func(q *api.Query, n int) { q.Class = n }, "best ", " in -1.171875..2 budget 70"},
	{"class of a falls", api.QMono, func(q *api.Query, n int) { q.Class = n }, "falls ", " by 3 in -1.171875..2 budget 70"},
	{"feature", api.QMono, func(q *api.Query, n int) { q.Feature = n }, "falls 2 by ", " in -1.171875..2 budget 70"},
	{"budget of a range", api.QRange, func(q *api.Query, n int) { q.Budget = n }, "range 2 from -2.5 to 3.5 in -1.171875..2 budget ", ""},
	{"budget of a best", api.QBest, func(q *api.Query, n int) { q.Budget = n }, "best 2 in -1.171875..2 budget ", ""},
	{"budget of a falls", api.QMono, func(q *api.Query, n int) { q.Budget = n }, "falls 2 by 3 in -1.171875..2 budget ", ""},
}

func TestClassesFeaturesAndBudgets(t *testing.T) {
	for _, c := range countFields {
		for _, n := range counts {
			q := asked(c.kind, 1)
			c.set(&q, n)
			isText(t, q, 1, c.ahead+strconv.Itoa(n)+c.behind)
		}
		for _, n := range noCounts {
			q := asked(c.kind, 1)
			c.set(&q, n)
			hasNoText(t, c.what, q, 1)
			isNone(t, c.what, c.ahead+strconv.Itoa(n)+c.behind)
		}
		for _, word := range append([]string{"0.5", "1.5", "-0.5", "0.00390625", "1073741824.5", "1073741824.00390625", "1073741823.99609375", "01073741824", "0..0", "budget", "in"}, strangeNumbers...) {
			isNone(t, c.what, c.ahead+word+c.behind)
		}
	}
}

// numberFields are where numbers with a point stand in the texts.
var numberFields = []struct {
	what          string
	kind, dim     int
	set           func(q *api.Query, n int)
	ahead, behind string
}{
	{"lo", api.QRange, 1, func(q *api.Query, n int) { q.Lo = n }, "range 2 from ", " to 3.5 in -1.171875..2 budget 70"},
	{"hi", api.QRange, 1, func(q *api.Query, n int) { q.Hi = n }, "range 2 from -2.5 to ", " in -1.171875..2 budget 70"},
	{"lo of a region", api.QRange, 1, func(q *api.Query, n int) { q.Region[0].Lo = n }, "range 2 from -2.5 to 3.5 in ", "..2 budget 70"},
	{"hi of a region", api.QRange, 1, func(q *api.Query, n int) { q.Region[0].Hi = n }, "range 2 from -2.5 to 3.5 in -1.171875..", " budget 70"},
	{"lo of a second span", api.QBest, 2, func(q *api.Query, n int) { q.Region[1].Lo = n }, "best 2 in -1.171875..2 ", "..2.25 budget 70"},
	{"hi of a second span", api.QMono, 2, func(q *api.Query, n int) { q.Region[1].Hi = n }, "falls 2 by 3 in -1.171875..2 -1.17578125..", " budget 70"},
	{"lo of a last span", api.QMono, 4, func(q *api.Query, n int) { q.Region[3].Lo = n }, "falls 2 by 3 in -1.171875..2 -1.17578125..2.25 -1.1796875..2.5 ", "..2.75 budget 70"},
	{"hi of a last span", api.QBest, 4, func(q *api.Query, n int) { q.Region[3].Hi = n }, "best 2 in -1.171875..2 -1.17578125..2.25 -1.1796875..2.5 -1.18359375..", " budget 70"},
}

// Some of these spans, and of these ranges, have their Lo above their Hi: no text is refused for that.
func TestLosAndHis(t *testing.T) {
	for _, c := range numberFields {
		for n, s := range numberTexts {
			q := asked(c.kind, c.dim)
			c.set(&q, n)
			isText(t, q, c.dim, c.ahead+s+c.behind)
		}
		for _, word := range strangeNumbers {
			isNone(t, c.what, c.ahead+word+c.behind)
		}
	}
}

func TestQueriesThatNoModelMayBeAsked(t *testing.T) {
	isText(t, api.Query{Kind: api.QRange, Lo: 512, Hi: 256}, 1, "range 0 from 2 to 1 in 0..0 budget 0")
	isText(t, api.Query{Kind: api.QRange, Lo: greatest, Hi: least}, 1, "range 0 from 36028797018963967.99609375 to -36028797018963968 in 0..0 budget 0")
	isText(t, api.Query{Kind: api.QBest, Region: of(256, 0, 0, -1, 0, 0, greatest, least)}, 4, "best 0 in 1..0 0..-0.00390625 0..0 36028797018963967.99609375..-36028797018963968 budget 0")
	isText(t, api.Query{Kind: api.QBest, Region: of(1<<40, 1<<41)}, 1, "best 0 in 4294967296..8589934592 budget 0")
	isText(t, api.Query{Kind: api.QMono, Class: 3, Feature: 4, Budget: api.MaxBudget + 1}, 1, "rises 3 by 4 in 0..0 budget 65537")
	isText(t, api.Query{Kind: api.QMono, Class: most, Feature: most, Falls: true, Budget: most}, 1, "falls 1073741824 by 1073741824 in 0..0 budget 1073741824")
}

func TestWhatIsNotTold(t *testing.T) {
	notTold := map[int]map[string]func(q *api.Query, n int){
		api.QRange: {"feature": func(q *api.Query, n int) { q.Feature = n }, "falls": func(q *api.Query, n int) { q.Falls = true }},
		api.QBest: {"lo": func(q *api.Query, n int) { q.Lo = n }, "hi": func(q *api.Query, n int) { q.Hi = n },
			"feature": func(q *api.Query, n int) { q.Feature = n }, "falls": func(q *api.Query, n int) { q.Falls = true }},
		api.QMono: {"lo": func(q *api.Query, n int) { q.Lo = n }, "hi": func(q *api.Query, n int) { q.Hi = n }},
	}
	for _, kind := range kinds {
		for dim := 1; dim <= api.MaxDim; dim++ {
			for _, n := range []int{least, -256, -1, 1, 2, 256, most, most + 1, greatest} {
				for what, set := range notTold[kind] {
					for _, q := range []api.Query{asked(kind, dim), {Kind: kind}} {
						set(&q, n)
						hasNoText(t, what, q, dim)
					}
				}
				for place := dim; place <= api.Twin; place++ {
					for _, q := range []api.Query{asked(kind, dim), {Kind: kind}} {
						lower := q
						lower.Region[place].Lo = n
						hasNoText(t, "lo behind dim", lower, dim)
						q.Region[place].Hi = n
						hasNoText(t, "hi behind dim", q, dim)
						q.Region[place].Lo = n
						hasNoText(t, "span behind dim", q, dim)
					}
				}
			}
		}
	}
}

func TestQueriesThrown(t *testing.T) {
	d := &dice{11}
	seen := map[string]int{}
	for range 20000 {
		q, dim := thrown(d)
		isText(t, q, dim, textOf(q, dim))
		seen[textOf(q, dim)]++
	}
	if len(seen) < 19000 {
		t.Errorf("only %d texts", len(seen))
	}
}

func TestTextsOfNone(t *testing.T) {
	for _, s := range []string{
		"", " ", "  ", strings.Repeat(" ", 20), "\n", "\x00", "\xff\xfe", "0", "in", "budget", "range", "best", "rises", "falls", "..", "0..0", "in budget", "in 0..0 budget 0", "budget 0", "in in in in in in",
		"range 0", "range 0 in 0..0 budget 0", "range 0 from 0 in 0..0 budget 0", "range 0 to 0 in 0..0 budget 0", "range 0 from 0 to in 0..0 budget 0", "range 0 from to 0 in 0..0 budget 0", "range from 0 to 0 in 0..0 budget 0",
		"range 0 from 0 to 0 0 in 0..0 budget 0", "range 0 0 from 0 to 0 in 0..0 budget 0", "range 0 to 0 from 0 in 0..0 budget 0", "range 0 by 0 in 0..0 budget 0", "range 0 from 0..0 in 0..0 budget 0",
		"best in 0..0 budget 0", "best 0", "best 0 in", "best 0 in budget 0", "best 0 in  budget 0", "best 0 in 0..0", "best 0 in 0..0 budget", "best 0 in 0..0 budget ", "best 0 0..0 budget 0", "best 0 in 0..0 0", "best 0 in 0..0 in 0..0 budget 0",
		"best 0 by 0 in 0..0 budget 0", "best 0 from 0 to 0 in 0..0 budget 0", "best 0 in 0..0 budget 0 budget 0", "best 0 in 0..0 budget budget 0", "best 0 budget 0 in 0..0", "best 0 in budget 0..0 0", "best 0 in 0..0 0..0 budget",
		"rises 0 in 0..0 budget 0", "rises 0 by in 0..0 budget 0", "rises by 0 in 0..0 budget 0", "rises 0 by 0 by 0 in 0..0 budget 0", "rises 0 from 0 to 0 in 0..0 budget 0", "falls 0 in 0..0 budget 0", "falls rises 0 by 0 in 0..0 budget 0",
		"rises falls 0 by 0 in 0..0 budget 0", "mono 0 by 0 in 0..0 budget 0", "worst 0 in 0..0 budget 0", "1 0 in 0..0 budget 0", " 0 in 0..0 budget 0", "\xef\xbb\xbfbest 0 in 0..0 budget 0",
	} {
		isNone(t, "none", s)
	}
}

func TestPointsOfSpans(t *testing.T) {
	for _, word := range []string{
		"", ".", "..", "...", "0", "0.", "0..", "..0", ".0", "0.0", "0...0", "0....0", "0.. .0", "0..0..0", "0..0..", "..0..0", "0..0.", ".0..0", "0..-0", "-0..0", "0,,0", "0.,0", "0..\x00", "0..0.0", "0.0..0", "0.5.0.5", "0.5...5", "0.5....5",
		"0:0", "0-0", "0…0", "0 .. 0", "0 ..0", "0.. 0", "(0, 0)", "0..0,", "1..+2", "+1..2", "0..0x1", "0.10..0", "0..0.10", "00..0", "0..00", "in", "in..in",
	} {
		isNone(t, "first span", "best 0 in "+word+" budget 0")
		isNone(t, "second span", "falls 0 by 0 in 0..0 "+word+" budget 0")
		isNone(t, "last span", "range 0 from 0 to 0 in 0..0 0..0 0..0 "+word+" budget 0")
	}
	for s, region := range map[string]api.Box{
		"0..0": {}, "0..0.5": of(0, 128), "0.5..0": of(128, 0), "-0.5..-0.5": of(-128, -128), "0.5..0.5": of(128, 128), "-1..1": of(-256, 256), "10..100": of(2560, 25600),
	} {
		isText(t, api.Query{Kind: api.QBest, Region: region}, 1, "best 0 in "+s+" budget 0")
	}
}

func TestNumbersOfSpans(t *testing.T) {
	for _, head := range []string{"range 0 from 0 to 0 in", "best 0 in", "rises 0 by 0 in", "falls 0 by 0 in"} {
		for count := range 20 {
			s := head + strings.Repeat(" 1..2", count) + " budget 3"
			if ok := holdParse(t, s); ok != (count >= 1 && count <= api.MaxDim) {
				t.Errorf("%d spans: %v", count, ok)
			}
		}
		isNone(t, "very many spans", head+strings.Repeat(" 0..0", 100000)+" budget 0")
	}
}

func TestBlanks(t *testing.T) {
	for _, s := range sampleTexts {
		for i := range len(s) + 1 {
			for _, blank := range []string{" ", "  ", "\t", "\r", "\n", "\r\n", "\v", "\f", "\u00a0", "\u0085", "\u2028", "\x00"} {
				isNone(t, "a blank more", s[:i]+blank+s[i:])
			}
		}
		for _, other := range []string{"", "  ", "\t", "\n", "\r", "\r\n", "_", ",", "\x00", "\u00a0"} {
			for _, changed := range swapped(s, " ", other) {
				isNone(t, "a blank as "+strconv.Quote(other), changed)
			}
			isNone(t, "all blanks as "+strconv.Quote(other), strings.ReplaceAll(s, " ", other))
		}
	}
}

func TestWordsMoreAndFewer(t *testing.T) {
	vocabulary := []string{"range", "best", "rises", "falls", "from", "to", "by", "in", "budget", "0", "1", "-1", "0.5", "0..1", "..", "", "end"}
	for _, s := range sampleTexts {
		words := strings.Split(s, " ")
		for i := range words {
			// A span fewer leaves a query, if it isn't the only one; all else doesn't.
			fewer := strings.Join(slices.Delete(slices.Clone(words), i, i+1), " ")
			if ok := holdParse(t, fewer); ok && !strings.Contains(words[i], "..") {
				t.Errorf("%q without %q is parsed", s, words[i])
			}
			for j := range i {
				changed := slices.Clone(words)
				changed[i], changed[j] = changed[j], changed[i]
				holdParse(t, strings.Join(changed, " "))
			}
			for _, word := range vocabulary {
				changed := slices.Clone(words)
				changed[i] = word
				holdParse(t, strings.Join(changed, " "))
			}
		}
		for i := range len(words) + 1 {
			for _, word := range append(vocabulary, words...) {
				holdParse(t, strings.Join(slices.Insert(slices.Clone(words), i, word), " "))
			}
		}
	}
}

func TestOtherWords(t *testing.T) {
	for word, others := range map[string][]string{
		"range":  {"Range", "RANGE", "rang", "ranges", "best", "rises", "falls", "in", ""},
		"best":   {"Best", "BEST", "bes", "bests", "worst", "range", "rises", ""},
		"rises":  {"Rises", "RISES", "rise", "risess", "falls ", "best", "range", ""},
		"falls":  {"Falls", "FALLS", "fall", "fallss", "rises ", "best", "range", ""},
		"from":   {"From", "FROM", "fro", "fromm", "to", "by", "in", "0", ""},
		"to":     {"To", "TO", "t", "too", "from", "..", "in", "0", ""},
		"by":     {"By", "BY", "b", "byy", "from", "to", "in", "0", ""},
		"in":     {"In", "IN", "i", "inn", "by", "budget", "0..0", ""},
		"budget": {"Budget", "BUDGET", "budge", "budgets", "in", "0..0", "0", ""},
		"..":     {".", "...", "....", ":", "-", " .. ", "..0..", " ", ",", "\u2025", ""},
	} {
		found := 0
		for _, other := range others {
			for _, s := range sampleTexts {
				for _, changed := range swapped(s, word, other) {
					isNone(t, word+" as "+other, changed)
					found++
				}
			}
		}
		if found < len(others) {
			t.Errorf("no text has %q", word)
		}
	}
}

func TestTextsThatAreCutOff(t *testing.T) {
	for _, s := range sampleTexts {
		// What is cut off within the budget may leave a shorter one.
		digits := len(s) - strings.LastIndex(s, " ") - 1
		for i := range len(s) {
			if ok := holdParse(t, s[:i]); ok != (i > len(s)-digits) {
				t.Errorf("%q, cut off at %d: %v", s, i, ok)
			}
			if i > 0 {
				isNone(t, "without its front", s[i:])
			}
		}
		isNone(t, "twice", s+s)
		isNone(t, "twice", s+" "+s)
		isNone(t, "twice", s+"\n"+s)
	}
}

// P11.3: of texts beside printed ones just those are parsed that have the form all over.
func TestEachByteChanged(t *testing.T) {
	for _, s := range sampleTexts {
		parsed := 0
		for i := range len(s) + 1 {
			if i < len(s) && holdParse(t, s[:i]+s[i+1:]) {
				parsed++
			}
			for b := range 256 {
				put := string([]byte{byte(b)})
				if holdParse(t, s[:i]+put+s[i:]) {
					parsed++
				}
				if i < len(s) && holdParse(t, s[:i]+put+s[i+1:]) {
					parsed++
				}
			}
		}
		if parsed <= len(s) {
			t.Errorf("only %d texts beside %q are parsed", parsed, s)
		}
	}
}

// Of all rows of so few words those alone are parsed that have the form.
func TestRowsOfWords(t *testing.T) {
	words := []string{"range", "best", "rises", "by", "from", "to", "in", "budget", "0", "7..2"}
	parsed := 0
	row := make([]string, 0, 6)
	var grow func()
	grow = func() {
		if holdParse(t, strings.Join(row, " ")) {
			parsed++
		}
		if len(row) == cap(row) {
			return
		}
		for _, word := range words {
			row = append(row, word)
			grow()
			row = row[:len(row)-1]
		}
	}
	grow()
	// "best 0 in 7..2 budget 0" alone has so few.
	if parsed != 1 {
		t.Errorf("%d rows are parsed", parsed)
	}
}

func TestWordsMixedUp(t *testing.T) {
	words := []string{"range", "best", "rises", "falls", "from", "to", "by", "in", "budget", "0", "1", "-0", "0.5", "-1.25", "0..1", "-0.5..0.5", "0..0.1", "1073741824", "1073741825", "", " "}
	d := &dice{93}
	parsed := 0
	for range 50000 {
		list := strings.Split(sampleTexts[d.below(len(sampleTexts))], " ")
		for range 1 + d.below(3) {
			list[d.below(len(list))] = words[d.below(len(words))]
		}
		if holdParse(t, strings.Join(list, " ")) {
			parsed++
		}
	}
	if parsed < 1000 {
		t.Errorf("only %d texts are parsed", parsed)
	}
}

func TestVeryLongTexts(t *testing.T) {
	const long = 1 << 20
	for _, s := range []string{
		strings.Repeat(" ", long), strings.Repeat(".", long), strings.Repeat("0", long), strings.Repeat("-", long), strings.Repeat("\xff", long), strings.Repeat("in ", long), strings.Repeat("budget ", long),
		"best " + strings.Repeat("0", long) + " in 0..0 budget 0", "best " + strings.Repeat("9", long) + " in 0..0 budget 0", "best 0 in 0.." + strings.Repeat("9", long) + " budget 0", "best 0 in " + strings.Repeat(".", long) + " budget 0",
		"best 0 in 0..0" + strings.Repeat(" ", long) + "budget 0", "best 0 in 0..0 budget 0" + strings.Repeat(" ", long), "best 0 in 0..0 budget " + strings.Repeat("0", long), "best 0 in 0..0 budget 1" + strings.Repeat("0", long),
		"best 0 in 0..0 budget 0" + strings.Repeat(" 0", long), "best 0 in" + strings.Repeat(" 0..0", long) + " budget 0", "range 0 from 0." + strings.Repeat("0", long) + "5 to 1 in 0..0 budget 0",
	} {
		isNone(t, "long", s)
	}
}

// No two queries, with their dims, have one text: else one of them would not be parsed.
func TestTextsTellQueriesApart(t *testing.T) {
	type told struct {
		q   api.Query
		dim int
	}
	seen := map[string]told{}
	d := &dice{113}
	for range 5000 {
		q, dim := api.Query{Kind: kinds[d.below(3)], Class: d.below(3), Budget: d.below(2)}, 1+d.below(api.MaxDim)
		q.Region[0].Hi = d.below(3)
		switch q.Kind {
		case api.QRange:
			q.Lo, q.Hi = d.below(2), d.below(2)
		case api.QMono:
			q.Feature, q.Falls = d.below(2), d.below(2) == 0
		}
		s := Print(q, dim)
		if other, ok := seen[s]; ok && other != (told{q, dim}) {
			t.Errorf("%q is the text of %+v, %d and of %+v, %d", s, q, dim, other.q, other.dim)
		}
		seen[s] = told{q, dim}
	}
}

// What was asked ahead, refused texts among it, is not to be seen in a later answer.
func TestAnswersHangOnNothingElse(t *testing.T) {
	for _, s := range sampleTexts {
		want, wantDim, _ := queryOf(s)
		for _, ahead := range append([]string{"", s + " ", "range 7 from 1 to 2 in 3..4 5..6 7..8 9..10 11..12 budget 5", "falls 1 by 1 in 1..1"}, sampleTexts...) {
			Parse(ahead)
			Print(asked(api.QRange, 4), 3)
			isText(t, want, wantDim, s)
		}
	}
}
